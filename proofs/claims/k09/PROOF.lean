import PyProof.Rows.All
import Wide.All
import OpenK.AllK
import Wide.FinOn
import HandS.ForMost
import HandS.Wide
import HandS.WideMore
import HandS.IsInst
import HandS.Flow
import HandS.Zip
import HandS.RaiseMore
import KE.GoesEnum
import HandS.ClsMeth
import HandS.Star
import KE.RegKIsAll
import HandS.Replace
import KE.SortKeyHeap
import HandS.SortKw
import HandS.DictComp
import HandS.ListItems
import HandS.SlotsOwn
import HandS.Sort
import HandS.Property
import PyProof.SumAny
import HandS.FStr
import HandS.Text
import HandS.ExcInit
import HandS.ExcField
import HandS.TryOnly
import HandS.WordsExc
import KE.KExcIs
import HandS.ExcIs
import HandS.MakeKwOnly
import PyProof.ListStr
import HandS.Conv
import PyProof.ExcBaseAll.ZeroDivisionError
import PyProof.ExcBaseAll.LookupError
import PyProof.ExcBaseAll.RuntimeError
import KE.GoesMore
import PyProof.StrLawsTight
import PyProof.SliceList
import KE.KStrOpen
import HandS.ExcValue
import HandS.List
import HandS.Dict
import KE.KDictZip
import KE.KItemsList
import HandS.TupAny
import KE.KxField
import HandS.StrMore
import PyProof.FString3
import PyProof.StrBlock2
import KE.OsRunLaw
import HandS.Head2
import PySem.Challenge.RW_countsheld_k09_columns_and_texts
set_option Elab.async false
set_option linter.all false
set_option maxRecDepth 100000
set_option maxHeartbeats 40000000
namespace Y
open PySem L2
/-! assertions about the abstract heap, held side by side -/

/-- tuples stay -/
def Tx (H H' : Hp) : Prop := ∀ b xs, H b = some (.tup xs) → H' b = some (.tup xs)
theorem Tx.refl (H : Hp) : Tx H H := fun _ _ e => e
theorem Tx.trans {H H1 H2 : Hp} (a : Tx H H1) (b : Tx H1 H2) : Tx H H2 := fun x y e => b x y (a x y e)
theorem tx_new {H : Hp} {p : Addr} {o : HO} (h : H p = none) : Tx H (upd H p o) := fun b xs e => by
  rw [upd_ne (ne_of_none e h)]
  exact e
theorem tx_upd {H : Hp} {p : Addr} {o u : HO} (h : H p = some u) (hu : ∀ xs, u ≠ .tup xs) : Tx H (upd H p o) := fun b xs e => by
  rw [upd_ne (fun z => hu xs (by rw [z, h] at e; exact Option.some.inj e))]
  exact e

/-- an assertion: its own addresses, the heap -/
structure Asn where
  h : (Addr → Prop) → Hp → Prop
  al : ∀ f H, h f H → ∀ a, f a → ∃ o, H a = some o
  st : ∀ f H H', h f H → (∀ a, f a → H' a = H a) → Tx H H' → h f H'

inductive SepF : List Asn → (Addr → Prop) → Hp → Prop
  | nil {H} : SepF [] (fun _ => False) H
  | cons {A l f g H} : A.h f H → SepF l g H → (∀ a, f a → ¬ g a) → SepF (A :: l) (fun a => f a ∨ g a) H
def Sep (l : List Asn) (H : Hp) : Prop := ∃ g, SepF l g H

theorem SepF.al {l : List Asn} {g : Addr → Prop} {H : Hp} (S : SepF l g H) : ∀ a, g a → ∃ o, H a = some o := by
  induction S with
  | nil => intro a z; exact z.elim
  | cons h _ _ ih => intro a z; exact z.elim (fun z => Asn.al _ _ _ h a z) (ih a)
theorem SepF.st {l : List Asn} {g : Addr → Prop} {H H' : Hp} (S : SepF l g H) (k : ∀ a, g a → H' a = H a) (t : Tx H H') : SepF l g H' := by
  induction S with
  | nil => exact .nil
  | cons h _ d ih => exact .cons (Asn.st _ _ _ _ h (fun a z => k a (.inl z)) t) (ih (fun a z => k a (.inr z)) t) d
theorem SepF.iff {l : List Asn} {g g' : Addr → Prop} {H : Hp} (S : SepF l g H) (e : ∀ a, g a ↔ g' a) : SepF l g' H := by
  have : g = g' := funext fun a => propext (e a)
  rw [← this]; exact S
theorem Sep.nil {H : Hp} : Sep [] H := ⟨_, .nil⟩
/-- the i-th to the front -/
theorem SepF.pick {l : List Asn} {g : Addr → Prop} {H : Hp} (S : SepF l g H) : ∀ {i : Nat} {A : Asn}, l[i]? = some A → SepF (A :: l.eraseIdx i) g H := by
  induction S with
  | nil => intro i A e; cases e
  | @cons B l f g H h S d ih =>
    intro i A e
    cases i with
    | zero => cases e; exact .cons h S d
    | succ i =>
      have q := ih (i := i) (A := A) e
      cases q with
      | @cons _ _ f2 g2 _ h2 S2 d2 =>
        refine SepF.iff (.cons h2 (.cons h S2 (fun a z w => d a z (.inr w))) (fun a z w => w.elim (fun w => d a w (.inl z)) (d2 a z))) fun a => ?_
        constructor
        · rintro (z | z | z)
          · exact .inr (.inl z)
          · exact .inl z
          · exact .inr (.inr z)
        · rintro (z | z | z)
          · exact .inr (.inl z)
          · exact .inl z
          · exact .inr (.inr z)
theorem Sep.pick {l : List Asn} {H : Hp} {i : Nat} {A : Asn} (S : Sep l H) (e : l[i]? = some A) : Sep (A :: l.eraseIdx i) H := S.imp fun _ q => q.pick e
theorem SepF.put {B : Asn} {l : List Asn} {f : Addr → Prop} {H : Hp} : ∀ {i : Nat} {l0 : List Asn} {g : Addr → Prop}, SepF l0 g H → i < l.length → l0 = l.eraseIdx i → B.h f H → (∀ a, f a → ¬ g a) → ∃ g', SepF (l.set i B) g' H ∧ ∀ a, g' a ↔ (f a ∨ g a) := by
  induction l with
  | nil => intro i l0 g S hi e hB d; cases hi
  | cons A l ih =>
    intro i l0 g S hi e hB d
    cases i with
    | zero =>
      rw [e] at S
      exact ⟨_, .cons hB S d, fun _ => Iff.rfl⟩
    | succ i =>
      rw [e] at S
      cases S with
      | @cons _ _ f2 g2 _ h2 S2 d2 =>
        obtain ⟨g', S', hg⟩ := ih (i := i) S2 (Nat.lt_of_succ_lt_succ hi) rfl hB (fun a z w => d a z (.inr w))
        refine ⟨_, .cons h2 S' (fun a z w => ((hg a).1 w).elim (fun w => d a w (.inl z)) (d2 a z)), fun a => ?_⟩
        constructor
        · rintro (z | z)
          · exact .inr (.inl z)
          · exact ((hg a).1 z).elim .inl (fun z => .inr (.inr z))
        · rintro (z | z | z)
          · exact .inr ((hg a).2 (.inl z))
          · exact .inl z
          · exact .inr ((hg a).2 (.inr z))
theorem get_lt {α : Type} {l : List α} {i : Nat} {x : α} (e : l[i]? = some x) : i < l.length := (List.getElem?_eq_some_iff.mp e).1
/-- the i-th put back -/
theorem Sep.back {l : List Asn} {H : Hp} {i : Nat} {A B : Asn} (e : l[i]? = some A) (S : Sep (B :: l.eraseIdx i) H) : Sep (l.set i B) H := by
  obtain ⟨g, S⟩ := S
  cases S with
  | cons h S d =>
    obtain ⟨g', q, _⟩ := SepF.put (l := l) (i := i) S (get_lt e) rfl h d
    exact ⟨g', q⟩
theorem Sep.tail {A : Asn} {l : List Asn} {H : Hp} (S : Sep (A :: l) H) : Sep l H := by
  obtain ⟨g, S⟩ := S
  cases S with
  | cons _ S _ => exact ⟨_, S⟩
theorem Sep.head {A : Asn} {l : List Asn} {H : Hp} (S : Sep (A :: l) H) : ∃ f, A.h f H := by
  obtain ⟨g, S⟩ := S
  cases S with
  | cons h _ _ => exact ⟨_, h⟩
theorem Sep.get {l : List Asn} {H : Hp} {i : Nat} {A : Asn} (S : Sep l H) (e : l[i]? = some A) : ∃ f, A.h f H := (S.pick e).head
theorem Sep.mono {A B : Asn} {l : List Asn} {H : Hp} (k : ∀ f, A.h f H → ∃ f', B.h f' H ∧ ∀ a, f' a → f a) (S : Sep (A :: l) H) : Sep (B :: l) H := by
  obtain ⟨g, S⟩ := S
  cases S with
  | cons h S d =>
    obtain ⟨f', h', hf⟩ := k _ h
    exact ⟨_, .cons h' S fun a z => d a (hf a z)⟩
def reord : List Nat → List Asn → List Asn
  | [], l => l
  | i :: is, l => match l[i]? with
    | some A => A :: reord is (l.eraseIdx i)
    | none => []
theorem SepF.reord : ∀ (is : List Nat) {l : List Asn} {g : Addr → Prop} {H : Hp}, SepF l g H → ∃ g', SepF (Y.reord is l) g' H ∧ ∀ a, g' a → g a
  | [], l, g, H, S => ⟨g, S, fun _ z => z⟩
  | i :: is, l, g, H, S => by
    unfold Y.reord
    cases e : l[i]? with
    | none => exact ⟨_, .nil, fun _ z => z.elim⟩
    | some A =>
      have q := S.pick e
      cases q with
      | cons h S d =>
        obtain ⟨g', S', k⟩ := SepF.reord is S
        exact ⟨_, .cons h S' (fun a z w => d a z (k a w)), fun a z => z.elim .inl fun z => .inr (k a z)⟩
theorem Sep.reord {l : List Asn} {H : Hp} (S : Sep l H) (is : List Nat) : Sep (Y.reord is l) H := by
  obtain ⟨g, S⟩ := S
  obtain ⟨g', S', _⟩ := S.reord is
  exact ⟨g', S'⟩
/-- nothing owned: what is true for good -/
def pure' (P : Prop) : Asn := ⟨fun f _ => P ∧ ∀ a, ¬ f a, fun _ _ h a z => (h.2 a z).elim, fun _ _ _ h _ _ => h⟩

/-- an object that may change -/
def At (p : Addr) (o : HO) : Asn := ⟨fun f H => H p = some o ∧ ∀ a, f a ↔ a = p, fun _ _ h a z => ⟨o, by rw [(h.2 a).1 z]; exact h.1⟩, fun _ _ _ h k _ => ⟨by rw [k p ((h.2 p).2 rfl)]; exact h.1, h.2⟩⟩
/-- a tuple -/
def Tp (p : Addr) (xs : List V) : Asn := ⟨fun f H => H p = some (.tup xs) ∧ ∀ a, ¬ f a, fun _ _ h a z => (h.2 a z).elim, fun _ _ _ h _ t => ⟨t _ _ h.1, h.2⟩⟩
section
variable {l : List Asn} {H : Hp} {i : Nat} {p : Addr} {o o' : HO} {xs : List V} {A : Asn}
theorem Sep.at (S : Sep l H) (e : l[i]? = some (At p o)) : H p = some o := by
  obtain ⟨f, h⟩ := S.get e
  exact h.1
theorem Sep.tp (S : Sep l H) (e : l[i]? = some (Tp p xs)) : H p = some (.tup xs) := by
  obtain ⟨f, h⟩ := S.get e
  exact h.1
theorem Sep.new (S : Sep l H) (h : H p = none) : Sep (At p o :: l) (upd H p o) := by
  obtain ⟨g, S⟩ := S
  have hg : ∀ a, g a → a ≠ p := fun a z q => by
    obtain ⟨u, e⟩ := S.al a z
    rw [q, h] at e
    cases e
  exact ⟨_, .cons (f := fun a => a = p) ⟨upd_same, fun _ => Iff.rfl⟩ (S.st (fun a z => upd_ne (hg a z)) (tx_new h)) fun a z w => hg a w z⟩
theorem Sep.newT (S : Sep l H) (h : H p = none) : Sep (Tp p xs :: l) (upd H p (.tup xs)) := by
  obtain ⟨g, S⟩ := S
  have hg : ∀ a, g a → a ≠ p := fun a z q => by
    obtain ⟨u, e⟩ := S.al a z
    rw [q, h] at e
    cases e
  exact ⟨_, .cons (f := fun _ => False) ⟨upd_same, fun _ z => z⟩ (S.st (fun a z => upd_ne (hg a z)) (tx_new h)) fun a z => z.elim⟩
theorem Sep.upd0 (S : Sep (At p o :: l) H) (ho : ∀ xs, o ≠ .tup xs) : Sep (At p o' :: l) (upd H p o') := by
  obtain ⟨g, S⟩ := S
  cases S with
  | @cons _ _ f g _ h S d =>
    have hg : ∀ a, g a → a ≠ p := fun a z q => d a ((h.2 a).2 q) z
    exact ⟨_, .cons (f := f) ⟨upd_same, h.2⟩ (S.st (fun a z => upd_ne (hg a z)) (tx_upd h.1 ho)) d⟩
theorem Sep.upd (S : Sep l H) (e : l[i]? = some (At p o)) (ho : ∀ xs, o ≠ .tup xs) : Sep (l.set i (At p o')) (upd H p o') :=
  Sep.back e ((S.pick e).upd0 ho)
end
/-- several for one -/
def Pk (l : List Asn) : Asn := ⟨fun f H => SepF l f H, fun _ _ h => h.al, fun _ _ _ h k t => h.st k t⟩
theorem SepF.app : ∀ {l m : List Asn} {f g : Addr → Prop} {H : Hp}, SepF l f H → SepF m g H → (∀ a, f a → ¬ g a) → SepF (l ++ m) (fun a => f a ∨ g a) H
  | _, m, _, g, H, .nil, T, _ => T.iff fun a => ⟨.inr, fun z => z.elim (fun z => z.elim) id⟩
  | _, m, _, g, H, .cons h S d, T, k => SepF.iff (.cons h (S.app T fun a z => k a (.inr z)) fun a z w => w.elim (d a z) (k a (.inl z))) fun a => by
      constructor
      · rintro (z | z | z)
        · exact .inl (.inl z)
        · exact .inl (.inr z)
        · exact .inr z
      · rintro ((z | z) | z)
        · exact .inl z
        · exact .inr (.inl z)
        · exact .inr (.inr z)
theorem SepF.cut : ∀ {l m : List Asn} {g : Addr → Prop} {H : Hp}, SepF (l ++ m) g H → ∃ f1 f2, SepF l f1 H ∧ SepF m f2 H ∧ (∀ a, f1 a → ¬ f2 a) ∧ ∀ a, g a ↔ (f1 a ∨ f2 a)
  | [], m, g, H, S => ⟨_, g, .nil, S, fun _ z => z.elim, fun a => ⟨.inr, fun z => z.elim (fun z => z.elim) id⟩⟩
  | A :: l, m, g, H, S0 => by
    have S1 : SepF (A :: (l ++ m)) g H := S0
    cases S1 with
    | @cons _ _ f g2 _ h S d =>
      obtain ⟨f1, f2, S1, S2, k, e⟩ := SepF.cut S
      refine ⟨_, f2, .cons h S1 (fun a z w => d a z ((e a).2 (.inl w))), S2, fun a z w => z.elim (fun z => d a z ((e a).2 (.inr w))) (fun z => k a z w), fun a => ?_⟩
      show (f a ∨ g2 a) ↔ _
      rw [e a]
      constructor
      · rintro (z | z | z)
        · exact .inl (.inl z)
        · exact .inl (.inr z)
        · exact .inr z
      · rintro ((z | z) | z)
        · exact .inl z
        · exact .inr (.inl z)
        · exact .inr (.inr z)
theorem Sep.open' {l m : List Asn} {H : Hp} (S : Sep (Pk l :: m) H) : Sep (l ++ m) H := by
  obtain ⟨g, S⟩ := S
  cases S with
  | cons h S d => exact ⟨_, SepF.app h S d⟩
theorem Sep.close' {l m : List Asn} {H : Hp} (S : Sep (l ++ m) H) : Sep (Pk l :: m) H := by
  obtain ⟨g, S⟩ := S
  obtain ⟨f1, f2, S1, S2, k, e⟩ := S.cut
  exact ⟨_, .cons S1 S2 k⟩
/-- for some x -/
def Exs {α : Type} (A : α → Asn) : Asn := ⟨fun f H => ∃ x, (A x).h f H, fun _ _ ⟨x, h⟩ => (A x).al _ _ h, fun _ _ _ ⟨x, h⟩ k t => ⟨x, (A x).st _ _ _ h k t⟩⟩
theorem Sep.ex {α : Type} {A : α → Asn} {l : List Asn} {H : Hp} (S : Sep (Exs A :: l) H) : ∃ x, Sep (A x :: l) H := by
  obtain ⟨g, S⟩ := S
  cases S with
  | cons h S d =>
    obtain ⟨x, h⟩ := h
    exact ⟨x, _, .cons h S d⟩
theorem Sep.ex' {α : Type} {A : α → Asn} {l : List Asn} {H : Hp} {x : α} (S : Sep (A x :: l) H) : Sep (Exs A :: l) H :=
  Sep.mono (fun f h => ⟨f, ⟨x, h⟩, fun _ z => z⟩) S
theorem Sep.pure {P : Prop} {l : List Asn} {H : Hp} (S : Sep (pure' P :: l) H) : P ∧ Sep l H := ⟨by obtain ⟨f, h⟩ := S.head; exact h.1, S.tail⟩
theorem Sep.pure_in {P : Prop} {l : List Asn} {H : Hp} (p : P) (S : Sep l H) : Sep (pure' P :: l) H := by
  obtain ⟨g, S⟩ := S
  exact ⟨_, .cons (f := fun _ => False) ⟨p, fun _ z => z⟩ S fun _ z => z.elim⟩

/-! operations by the values they meet; one step of a reading a lemma -/

/-! ### rules by or -/
section
variable {X : Cx}
theorem OpR.or {f : Value → Value → Sem Value} {r1 r2 : R2} (h1 : OpR X f r1) (h2 : OpR X f r2) : OpR X f (fun x y H Q => r1 x y H Q ∨ r2 x y H Q) :=
  fun pins s σ H x y v u Q I rx ry h => h.elim (h1 pins s σ H x y v u Q I rx ry) (h2 pins s σ H x y v u Q I rx ry)
theorem CallR.or {f : Value} {r1 r2 : List V → Hp → VK → Prop} (h1 : CallR X f r1) (h2 : CallR X f r2) : CallR X f (fun x H Q => r1 x H Q ∨ r2 x H Q) :=
  fun pins s σ H x u Q I rx h => h.elim (h1 pins s σ H x u Q I rx) (h2 pins s σ H x u Q I rx)
theorem SlR.or {r1 r2 : V → Option Int → Option Int → Hp → VK → Prop} (h1 : SlR X r1) (h2 : SlR X r2) : SlR X (fun x a b H Q => r1 x a b H Q ∨ r2 x a b H Q) := by
  intro pins s σ H
  intros
  rename_i h
  rcases h with h | h
  · apply h1 <;> assumption
  · apply h2 <;> assumption
end
def rAddS : R2 := fun x y H Q => ∃ i j, x = V.str i ∧ y = V.str j ∧ i.length + j.length ≤ sizeLine ∧ Q (V.str (i ++ j)) H
def gAdd : R2 := fun x y H Q => rI0 (fun i j => .int (i + j)) x y H Q ∨ (rAddS x y H Q ∨ rCat x y H Q)
def gMinus : R2 := rI0 fun i j => .int (i - j)
def gMul : R2 := fun x y H Q => rI CMul (fun i j => .int (i * j)) x y H Q ∨ rI CMulW (fun i j => .int (i * j)) x y H Q
def gDiv : R2 := rI CDivW fun i j => .int (i / j)
def gMod : R2 := rI (fun _ j => j ≠ 0) fun i j => .int (i.fmod j)
def gPow : R2 := rI CPow fun i j => .int (i ^ j.toNat)
def gNeg : V → Hp → VK → Prop := rU fun i => .int (-i)
def gEq (K : PySem.W.Frag) : R2 := fun x y H Q => rEq x y H Q ∨ rEqD K x y H Q
def gNe (K : PySem.W.Frag) : R2 := fun x y H Q => rNe x y H Q ∨ rNeD K x y H Q
def gLt : R2 := rI0 fun i j => .bl (decide (i < j))
def gLe : R2 := rI0 fun i j => .bl (decide (i ≤ j))
def gGt : R2 := rI0 fun i j => .bl (decide (j < i))
def gGe : R2 := rI0 fun i j => .bl (decide (j ≤ i))
def rInT (neg : Bool) : R2 := fun x y H Q => ∃ c z, x = V.str ⟨#[c]⟩ ∧ y = V.str z ∧ Q (.bl (if neg then !decide (c ∈ z.cps.toList) else decide (c ∈ z.cps.toList))) H
def gIn (K : PySem.W.Frag) (neg : Bool) : R2 := fun x y H Q => rIn K neg x y H Q ∨ rInT neg x y H Q
def gIs : R2 := fun x y H Q => y = .non ∧ Q (.bl (decide (x = .non))) H
def gIsN : R2 := fun x y H Q => y = .non ∧ Q (.bl (!decide (x = .non))) H
section
variable {X : Cx}
theorem op_gAdd : OpR X (binaryOp .Add) gAdd := OpR.or op_add (OpR.or op_add_str op_cat)
theorem op_gSub : OpR X (binaryOp .Sub) gMinus := op_sub
theorem op_gMul : OpR X (binaryOp .Mult) gMul := OpR.or op_mul op_mulW
theorem op_gDiv : OpR X (binaryOp .FloorDiv) gDiv := op_fdivW
theorem op_gMod : OpR X (binaryOp .Mod) gMod := op_modN
theorem op_gPow : OpR X (binaryOp .Pow) gPow := op_pow
theorem un_gNeg : UnR X (unaryOp .USub) gNeg := un_neg
theorem op_gEq {K : PySem.W.Frag} (hK : X.K = K) (hu : X.A.units + 64 < cLine) : OpR X (compareOp .Eq) (gEq K) := by rw [← hK]; exact OpR.or op_eq (op_eqD hu)
theorem op_gNe {K : PySem.W.Frag} (hK : X.K = K) (hu : X.A.units + 64 < cLine) : OpR X (compareOp .NotEq) (gNe K) := by rw [← hK]; exact OpR.or op_ne (op_neD hu)
theorem op_gLt : OpR X (compareOp .Lt) gLt := op_lt
theorem op_gLe : OpR X (compareOp .LtE) gLe := op_le
theorem op_gGt : OpR X (compareOp .Gt) gGt := op_gt
theorem op_gGe : OpR X (compareOp .GtE) gGe := op_ge
theorem op_gIn {K : PySem.W.Frag} (hK : X.K = K) : OpR X (compareOp .In) (gIn K false) := by rw [← hK]; exact OpR.or op_in_seq op_in_sign
theorem op_gNotIn {K : PySem.W.Frag} (hK : X.K = K) : OpR X (compareOp .NotIn) (gIn K true) := by rw [← hK]; exact OpR.or op_notIn_seq op_notIn_sign
theorem op_gIs : OpR X (compareOp .Is) gIs := op_isN
theorem op_gIsN : OpR X (compareOp .IsNot) gIsN := op_notN
end
def gSl (K : PySem.W.Frag) : V → Option Int → Option Int → Hp → VK → Prop := fun x lo hi H Q => rSlL K x lo hi H Q ∨ rSlS x lo hi H Q
theorem sl_g {X : Cx} {K : PySem.W.Frag} (hK : X.K = K) : SlR X (gSl K) := by rw [← hK]; exact SlR.or sl_list sl_str
theorem ix_g {X : Cx} {K : PySem.W.Frag} (hK : X.K = K) : IxR X (rIx K) := by rw [← hK]; exact ix_seq
def tTr (K : PySem.W.Frag) (ta : TE) : TT := fun σ H Q => ta σ H fun x H' => ∃ k, TruV K x H' k ∧ Q k H'
theorem pt_tr {X : Cx} {K : PySem.W.Frag} (hK : X.K = K) {a : Expr} {ta : TE} (h : PE X a ta) (hw : ∀ whole : Sem Value, isTrue a X.env whole = (do let v ← whole; standAt a.pos; holding [v] (truthy v)) := by intro _; rfl) : PT X a (tTr K ta) := by rw [← hK]; exact pt_truth h hw
def gLen (K : PySem.W.Frag) : List V → Hp → VK → Prop := fun xs H Q => (∃ x n, xs = [x] ∧ LenV K x H n ∧ Q (.int n) H) ∨ ∃ d kvs, xs = [.ref d] ∧ H d = some (.dK kvs) ∧ Q (.int kvs.length) H

/-! ### steps -/
section
variable {σ : St} {H : Hp} {i j : Nat} {v x y z : V} {ta tb tc te : TE} {t u : TT} {tr : TA} {Q : VK} {QB : Bool → Hp → Prop} {QA : List V → Hp → Prop} {b : Bool} {r r' : R2} {K : PySem.W.Frag} {m n : Int} {D : Ends} {ts tz : TS} {l : List Asn} {p : Addr} {xs ys : List V}
theorem r_var (h : σ[i]? = some (some v)) (q : Q v H) : tVar i σ H Q := ⟨v, h, q⟩
theorem r_c (q : Q v H) : tC v σ H Q := q
theorem r_op (q : ta σ H fun x H1 => tb σ H1 fun y H2 => r x y H2 Q) : tOp r ta tb σ H Q := q
theorem r_un {r : V → Hp → VK → Prop} (q : ta σ H fun x H1 => r x H1 Q) : tUn r ta σ H Q := q
theorem r_test (q : te σ H fun x H' => ∃ k, x = .bl k ∧ QB k H') : tTest te σ H QB := q
theorem r_B (q : te σ H fun x H' => ∃ k, x = .bl k ∧ QB k H') : tB te σ H QB := q
theorem r_and (q : t σ H fun c H1 => if c = true then u σ H1 QB else QB false H1) : tAnd t u σ H QB := q
theorem r_or (q : t σ H fun c H1 => if c = true then QB true H1 else u σ H1 QB) : tOr t u σ H QB := q
theorem r_not (q : t σ H fun c H1 => QB (!c) H1) : tNot t σ H QB := q
theorem r_andV (q : ta σ H fun x H1 => ∃ c, x = .bl c ∧ if c = true then tb σ H1 Q else Q (.bl false) H1) : tAndV ta tb σ H Q := q
theorem r_orV (q : ta σ H fun x H1 => ∃ c, x = .bl c ∧ if c = true then Q (.bl true) H1 else tb σ H1 Q) : tOrV ta tb σ H Q := q
theorem r_notV (q : ta σ H fun x H1 => ∃ c, x = .bl c ∧ Q (.bl (!c)) H1) : tNotV ta σ H Q := q
theorem r_isbl {P : Bool → Prop} (q : P b) : ∃ k, V.bl b = .bl k ∧ P k := ⟨b, rfl, q⟩
theorem r_ifE (q : t σ H fun c H1 => if c = true then ta σ H1 Q else tb σ H1 Q) : tIf t ta tb σ H Q := q
theorem r_nil (q : QA [] H) : tNil σ H QA := q
theorem r_cons (q : te σ H fun x H1 => tr σ H1 fun xs H2 => QA (x :: xs) H2) : tCons te tr σ H QA := q
theorem r_if {A B : Prop} (h1 : b = true → A) (h2 : b = false → B) : if b = true then A else B := by
  cases b with
  | true => rw [if_pos rfl]; exact h1 rfl
  | false => rw [if_neg Bool.false_ne_true]; exact h2 rfl
theorem r_ifT {A B : Prop} (h : b = true) (h1 : A) : if b = true then A else B := by rw [if_pos h]; exact h1
theorem r_ifF {A B : Prop} (h : b = false) (h1 : B) : if b = true then A else B := by rw [h, if_neg Bool.false_ne_true]; exact h1
theorem r_ifD {c A B : Prop} [Decidable c] (h1 : c → A) (h2 : ¬ c → B) : if decide c = true then A else B := r_if (fun e => h1 (of_decide_eq_true e)) (fun e => h2 (of_decide_eq_false e))
theorem r_ifN {c A B : Prop} [Decidable c] (h1 : ¬ c → A) (h2 : c → B) : if (!decide c) = true then A else B := r_if (fun e => h1 (of_decide_eq_false (by simpa using e))) (fun e => h2 (of_decide_eq_true (by simpa using e)))
theorem r_ifDT {c A B : Prop} [Decidable c] (h : c) (h1 : A) : if decide c = true then A else B := r_ifD (fun _ => h1) fun e => absurd h e
theorem r_ifDF {c A B : Prop} [Decidable c] (h : ¬ c) (h1 : B) : if decide c = true then A else B := r_ifD (fun e => absurd e h) fun _ => h1
theorem r_ifNT {c A B : Prop} [Decidable c] (h : ¬ c) (h1 : A) : if (!decide c) = true then A else B := r_ifN (fun _ => h1) fun e => absurd e h
theorem r_ifNF {c A B : Prop} [Decidable c] (h : c) (h1 : B) : if (!decide c) = true then A else B := r_ifN (fun e => absurd h e) fun _ => h1
theorem r_ifPT {c A B : Prop} [Decidable c] (h : c) (h1 : A) : if c then A else B := by rw [if_pos h]; exact h1
theorem r_chain (q : ta σ H fun x H1 => tb σ H1 fun y H2 => r x y H2 fun z H3 => ∃ k, z = .bl k ∧ (if k = true then tc σ H3 fun w' H4 => r' y w' H4 Q else Q (.bl false) H3)) : tChain r r' ta tb tc σ H Q := q
theorem r_call {sp : Sp} {E : XK} (q : tr σ H fun vs H1 => sp vs H1 Q E) : tCall sp [] E tr σ H Q := by
  have e : (fun (vs : List V) (H1 : Hp) => sp (vs ++ []) H1 Q E) = fun vs H1 => sp vs H1 Q E := by
    funext vs H1
    rw [List.append_nil]
  show tr σ H fun vs H1 => sp (vs ++ []) H1 Q E
  rw [e]
  exact q
theorem r_callD {sp : Sp} {dvs : List V} {E : XK} (q : tr σ H fun vs H1 => sp (vs ++ dvs) H1 Q E) : tCall sp dvs E tr σ H Q := q
theorem r_CB {r : List V → Hp → VK → Prop} (q : tr σ H fun vs H1 => r vs H1 Q) : tCB r tr σ H Q := q
/-- new lists, tuples -/
theorem r_lst (S : ∀ xs H1, QA xs H1 → Prop) : True := trivial
theorem new_eq {H1 : Hp} {o : HO} (S : Sep l H) (hp : H p = none) (hg : upd H p o = H1) : Sep (At p o :: l) H1 := by rw [← hg]; exact S.new hp
theorem newT_eq {H1 : Hp} (S : Sep l H) (hp : H p = none) (hg : upd H p (.tup xs) = H1) : Sep (Tp p xs :: l) H1 := by rw [← hg]; exact S.newT hp
theorem a_lst (S : Sep l H) (hz : xs.length ≤ sizeLine) (k : ∀ p H', Sep (At p (.lst xs) :: l) H' → Q (.ref p) H') : xs.length ≤ sizeLine ∧ ∀ p, H p = none → Q (.ref p) (upd H p (.lst xs)) :=
  ⟨hz, fun p hp => k p _ (S.new hp)⟩
theorem a_tup (S : Sep l H) (hz : xs.length ≤ sizeLine) (k : ∀ p H', Sep (Tp p xs :: l) H' → Q (.ref p) H') : xs.length ≤ sizeLine ∧ ∀ p, H p = none → Q (.ref p) (upd H p (.tup xs)) :=
  ⟨hz, fun p hp => k p _ (S.newT hp)⟩
theorem a_new {o : HO} (S : Sep l H) (k : ∀ p H', Sep (At p o :: l) H' → Q (.ref p) H') : ∀ p, H p = none → Q (.ref p) (upd H p o) := fun p hp => k p _ (S.new hp)
theorem a_newT (S : Sep l H) (k : ∀ p H', Sep (Tp p xs :: l) H' → Q (.ref p) H') : ∀ p, H p = none → Q (.ref p) (upd H p (.tup xs)) := fun p hp => k p _ (S.newT hp)
theorem r_tup (q : tr σ H fun xs H1 => xs.length ≤ sizeLine ∧ ∀ p, H1 p = none → Q (.ref p) (upd H1 p (.tup xs))) : tTup tr σ H Q := q
theorem r_list (q : tr σ H fun xs H1 => xs.length ≤ sizeLine ∧ ∀ p, H1 p = none → Q (.ref p) (upd H1 p (.lst xs))) : tLst tr σ H Q := q
/-! statements -/
section
variable {nx bk ct : St → Hp → Prop} {rt : VK} {tu : TS}
theorem r_seq (q : ts ⟨tz ⟨nx, rt, bk, ct⟩, rt, bk, ct⟩ σ H) : tSeq ts tz ⟨nx, rt, bk, ct⟩ σ H := q
theorem r_next (q : nx σ H) : tNext ⟨nx, rt, bk, ct⟩ σ H := q
theorem r_brk (q : bk σ H) : tBreak ⟨nx, rt, bk, ct⟩ σ H := q
theorem r_cnt (q : ct σ H) : tCont ⟨nx, rt, bk, ct⟩ σ H := q
theorem r_ret (q : te σ H rt) : tRet te ⟨nx, rt, bk, ct⟩ σ H := q
theorem r_retN (q : rt .non H) : tRetN ⟨nx, rt, bk, ct⟩ σ H := q
theorem r_drop (q : te σ H fun _ H1 => nx σ H1) : tDrop te ⟨nx, rt, bk, ct⟩ σ H := q
theorem r_ifS (q : t σ H fun b H1 => if b = true then ts D σ H1 else tu D σ H1) : tIfS t ts tu D σ H := q
theorem r_asg {g : TG} (q : te σ H fun x H1 => g x σ H1 nx) : tAsg te g ⟨nx, rt, bk, ct⟩ σ H := q
theorem r_aug {ti : TIp} (h : σ[i]? = some (some x)) (q : te σ H fun y H1 => ti x y H1 fun z H2 => nx (σ.set i (some z)) H2) : tAug i te ti ⟨nx, rt, bk, ct⟩ σ H := ⟨x, h, q⟩
end
theorem g_name {R : St → Hp → Prop} (q : R (σ.set i (some v)) H) : gName i v σ H R := q
theorem g_tup {k : Nat} {tg : TGs} {R : St → Hp → Prop} {e : Nat} (S : Sep l H) (hi : l[e]? = some (Tp p xs)) (hk : xs.length = k) (q : tg xs σ H R) : gTup K k tg (.ref p) σ H R := ⟨p, xs, rfl, SqT.of (S.tp hi), hk, q⟩
theorem g_cons {g : TG} {gs : TGs} {R : St → Hp → Prop} (q : g v σ H fun σ' H' => gs xs σ' H' R) : gCons g gs (v :: xs) σ H R := ⟨v, xs, rfl, q⟩
theorem g_nil {R : St → Hp → Prop} (q : R σ H) : gNil [] σ H R := ⟨rfl, q⟩
/-! operations on values -/
theorem o_add (q : Q (.int (m + n)) H) : gAdd (.int m) (.int n) H Q := .inl ⟨m, n, rfl, rfl, q⟩
theorem o_addS {s w : Str} (hz : s.length + w.length ≤ sizeLine) (q : Q (.str (s ++ w)) H) : gAdd (.str s) (.str w) H Q := .inr (.inl ⟨s, w, rfl, rfl, hz, q⟩)
theorem o_cat {p' : Addr} {e e' : Nat} (S : Sep l H) (hi : l[e]? = some (At p (.lst xs))) (hj : l[e']? = some (At p' (.lst ys))) (hz : xs.length + ys.length ≤ sizeLine) (k : ∀ d H', Sep (At d (.lst (xs ++ ys)) :: l) H' → Q (.ref d) H') : gAdd (.ref p) (.ref p') H Q :=
  .inr (.inr ⟨p, p', xs, ys, rfl, rfl, S.at hi, S.at hj, hz, fun d hd => k d _ (S.new hd)⟩)
theorem o_sub (q : Q (.int (m - n)) H) : gMinus (.int m) (.int n) H Q := ⟨m, n, rfl, rfl, q⟩
theorem o_mulL (h : -(2 ^ 64) < m ∧ m < 2 ^ 64) (q : Q (.int (m * n)) H) : gMul (.int m) (.int n) H Q := .inl ⟨m, n, rfl, rfl, .inl h, q⟩
theorem o_mulR (h : -(2 ^ 64) < n ∧ n < 2 ^ 64) (q : Q (.int (m * n)) H) : gMul (.int m) (.int n) H Q := .inl ⟨m, n, rfl, rfl, .inr h, q⟩
theorem o_mulW (h : CMulW m n) (q : Q (.int (m * n)) H) : gMul (.int m) (.int n) H Q := .inr ⟨m, n, rfl, rfl, h, q⟩
theorem o_div (h0 : 0 < n) (h1 : n < 10 ^ 40) (q : Q (.int (m / n)) H) : gDiv (.int m) (.int n) H Q := ⟨m, n, rfl, rfl, wide_div (b := 200) h0 (by
  have e : (10 : Int) ^ 40 < 2 ^ 200 := by decide
  have e2 : (n.natAbs : Int) = n := by omega
  have e3 : ((2 ^ 200 : Nat) : Int) = 2 ^ 200 := by decide
  omega) (by decide) (by decide), q⟩
theorem o_mod (h : 0 < n) (k : ∀ r : Int, r = m % n → 0 ≤ r → r < n → Q (.int r) H) : gMod (.int m) (.int n) H Q := ⟨m, n, rfl, rfl, by omega, by
  have e : m.fmod n = m % n := Int.fmod_eq_emod_of_nonneg m (by omega)
  show Q (.int (m.fmod n)) H
  rw [e]; exact k _ rfl (Int.emod_nonneg m (by omega)) (Int.emod_lt_of_pos m h)⟩
theorem o_pow {k : Nat} (h : 0 ≤ n ∧ n ≤ 1000000 ∧ m.natAbs < 2 ^ 64) (e : n.toNat = k) (q : Q (.int (m ^ k)) H) : gPow (.int m) (.int n) H Q := ⟨m, n, rfl, rfl, h, by rw [← e] at q; exact q⟩
theorem o_neg (q : Q (.int (-n)) H) : gNeg (.int n) H Q := ⟨n, rfl, q⟩
theorem o_lt (q : Q (.bl (decide (m < n))) H) : gLt (.int m) (.int n) H Q := ⟨m, n, rfl, rfl, q⟩
theorem o_le (q : Q (.bl (decide (m ≤ n))) H) : gLe (.int m) (.int n) H Q := ⟨m, n, rfl, rfl, q⟩
theorem o_gt (q : Q (.bl (decide (n < m))) H) : gGt (.int m) (.int n) H Q := ⟨m, n, rfl, rfl, q⟩
theorem o_ge (q : Q (.bl (decide (n ≤ m))) H) : gGe (.int m) (.int n) H Q := ⟨m, n, rfl, rfl, q⟩
theorem d_int {m n : Int} : decide (V.int m = V.int n) = decide (m = n) := by
  by_cases h : m = n
  · rw [h, decide_eq_true rfl, decide_eq_true rfl]
  · rw [decide_eq_false h, decide_eq_false (fun z => h (V.int.inj z))]
theorem d_str {m n : Str} : decide (V.str m = V.str n) = decide (m = n) := by
  by_cases h : m = n
  · rw [h, decide_eq_true rfl, decide_eq_true rfl]
  · rw [decide_eq_false h, decide_eq_false (fun z => h (V.str.inj z))]
theorem d_bl {m n : Bool} : decide (V.bl m = V.bl n) = decide (m = n) := by
  by_cases h : m = n
  · rw [h, decide_eq_true rfl, decide_eq_true rfl]
  · rw [decide_eq_false h, decide_eq_false (fun z => h (V.bl.inj z))]
theorem o_eqI (q : Q (.bl (decide (m = n))) H) : gEq K (.int m) (.int n) H Q := .inl ⟨rfl, by rw [d_int]; exact q⟩
theorem o_eqS {m n : Str} (q : Q (.bl (decide (m = n))) H) : gEq K (.str m) (.str n) H Q := .inl ⟨rfl, by rw [d_str]; exact q⟩
theorem o_eqB {m n : Bool} (q : Q (.bl (decide (m = n))) H) : gEq K (.bl m) (.bl n) H Q := .inl ⟨rfl, by rw [d_bl]; exact q⟩
theorem o_neI (q : Q (.bl (!decide (m = n))) H) : gNe K (.int m) (.int n) H Q := .inl ⟨rfl, by rw [d_int]; exact q⟩
theorem o_neS {m n : Str} (q : Q (.bl (!decide (m = n))) H) : gNe K (.str m) (.str n) H Q := .inl ⟨rfl, by rw [d_str]; exact q⟩
theorem o_neB {m n : Bool} (q : Q (.bl (!decide (m = n))) H) : gNe K (.bl m) (.bl n) H Q := .inl ⟨rfl, by rw [d_bl]; exact q⟩
theorem o_is (q : Q (.bl (decide (x = .non))) H) : gIs x .non H Q := ⟨rfl, q⟩
theorem o_isN (q : Q (.bl (!decide (x = .non))) H) : gIsN x .non H Q := ⟨rfl, q⟩
/-! places -/
theorem x_lst {e : Nat} (S : Sep l H) (hi : l[e]? = some (At p (.lst xs))) (a : atI xs n = some v) (q : Q v H) : rIx K (.ref p) (.int n) H Q := .inl ⟨p, xs, n, v, rfl, rfl, SqL.of (S.at hi), a, q⟩
theorem atI_in {α : Type} {as : List α} (h0 : 0 ≤ n) (h1 : n < as.length) : ∃ y, as[n.toNat]? = some y ∧ atI as n = some y := by
  have hl : n.toNat < as.length := by omega
  refine ⟨as[n.toNat], List.getElem?_eq_getElem hl, ?_⟩
  unfold atI ixN
  rw [if_pos h0, if_pos h1]
  exact List.getElem?_eq_getElem hl
theorem x_lstM {e : Nat} {α : Type} {f : α → V} {as : List α} (S : Sep l H) (hi : l[e]? = some (At p (.lst (as.map f)))) (h0 : 0 ≤ n) (h1 : n < as.length) (k : ∀ y, as[n.toNat]? = some y → Q (f y) H) : rIx K (.ref p) (.int n) H Q := by
  obtain ⟨y, e1, e2⟩ := atI_in h0 h1
  refine x_lst (v := f y) S hi ?_ (k y e1)
  obtain ⟨z, e3, e4⟩ := atI_in (as := as.map f) h0 (by rw [List.length_map]; exact h1)
  rw [List.getElem?_map, e1] at e3
  rw [e4, ← e3]
  rfl
theorem x_lstA {e : Nat} (S : Sep l H) (hi : l[e]? = some (At p (.lst xs))) (h0 : 0 ≤ n) (h1 : n < xs.length) (k : ∀ v, xs[n.toNat]? = some v → Q v H) : rIx K (.ref p) (.int n) H Q := by
  obtain ⟨y, e1, e2⟩ := atI_in h0 h1
  exact x_lst S hi e2 (k y e1)
theorem x_tup {e : Nat} (S : Sep l H) (hi : l[e]? = some (Tp p xs)) (a : atI xs n = some v) (q : Q v H) : rIx K (.ref p) (.int n) H Q := .inr (.inl ⟨p, xs, n, v, rfl, rfl, SqT.of (S.tp hi), a, q⟩)
theorem x_str {z : Str} {c : Nat} (hz : z.length ≤ sizeLine) (a : atI z.cps.toList n = some c) (q : Q (.str ⟨#[c]⟩) H) : rIx K (.str z) (.int n) H Q := .inr (.inr ⟨z, n, c, rfl, rfl, hz, a, q⟩)
theorem g_sub {to ti : TE} {tset : TSet} {R : St → Hp → Prop} (q : to σ H fun o H1 => ti σ H1 fun i H2 => tset o i v H2 fun H3 => R σ H3) : gSub to ti tset v σ H R := q
theorem w_lst {e : Nat} {R : Hp → Prop} {jn : Nat} (S : Sep l H) (hi : l[e]? = some (At p (.lst xs))) (a : ixN xs.length n = some jn) (k : ∀ H', Sep (l.set e (At p (.lst (xs.set jn v)))) H' → R H') : rSetL (.ref p) (.int n) v H R :=
  ⟨p, xs, n, jn, rfl, rfl, S.at hi, a, k _ (S.upd hi fun _ z => nomatch z)⟩
/-! has -/
theorem has0 {A : Asn} : (A :: l)[0]? = some A := rfl
theorem hasS {A B : Asn} (h : l[i]? = some A) : (B :: l)[i + 1]? = some A := h
theorem set_same {α : Type} {x : α} : ∀ {l : List α} {i : Nat}, l[i]? = some x → l.set i x = l
  | [], _, e => by cases e
  | a :: l, 0, e => by cases e; rfl
  | a :: l, i + 1, e => by
    show a :: l.set i x = a :: l
    rw [set_same (l := l) (i := i) e]
theorem Sep.backS {A : Asn} (e : l[i]? = some A) (S : Sep (A :: l.eraseIdx i) H) : Sep l H := by
  have q := Sep.back e S
  rw [set_same e] at q
  exact q
theorem Sep.fr1 {A B : Asn} (S : Sep (A :: B :: l) H) : Sep (B :: A :: l) H := S.pick (i := 1) rfl
theorem Sep.dr1 {A B : Asn} (S : Sep (A :: B :: l) H) : Sep (A :: l) H := S.fr1.tail
theorem Sep.bk1 {A B : Asn} (S : Sep (A :: B :: l) H) : Sep (B :: A :: l) H := S.reord [1]
theorem Sep.fr2 {A B C : Asn} (S : Sep (A :: B :: C :: l) H) : Sep (C :: A :: B :: l) H := S.pick (i := 2) rfl
theorem Sep.dr2 {A B C : Asn} (S : Sep (A :: B :: C :: l) H) : Sep (A :: B :: l) H := S.fr2.tail
theorem Sep.bk2 {A B C : Asn} (S : Sep (A :: B :: C :: l) H) : Sep (B :: C :: A :: l) H := S.reord [1, 1]
theorem Sep.fr3 {A B C D : Asn} (S : Sep (A :: B :: C :: D :: l) H) : Sep (D :: A :: B :: C :: l) H := S.pick (i := 3) rfl
theorem Sep.dr3 {A B C D : Asn} (S : Sep (A :: B :: C :: D :: l) H) : Sep (A :: B :: C :: l) H := S.fr3.tail
theorem Sep.bk3 {A B C D : Asn} (S : Sep (A :: B :: C :: D :: l) H) : Sep (B :: C :: D :: A :: l) H := S.reord [1, 1, 1]
theorem Sep.fr4 {A B C D E : Asn} (S : Sep (A :: B :: C :: D :: E :: l) H) : Sep (E :: A :: B :: C :: D :: l) H := S.pick (i := 4) rfl
theorem Sep.dr4 {A B C D E : Asn} (S : Sep (A :: B :: C :: D :: E :: l) H) : Sep (A :: B :: C :: D :: l) H := S.fr4.tail
theorem Sep.bk4 {A B C D E : Asn} (S : Sep (A :: B :: C :: D :: E :: l) H) : Sep (B :: C :: D :: E :: A :: l) H := S.reord [1, 1, 1, 1]
theorem Sep.fr5 {A B C D E F : Asn} (S : Sep (A :: B :: C :: D :: E :: F :: l) H) : Sep (F :: A :: B :: C :: D :: E :: l) H := S.pick (i := 5) rfl
theorem Sep.dr5 {A B C D E F : Asn} (S : Sep (A :: B :: C :: D :: E :: F :: l) H) : Sep (A :: B :: C :: D :: E :: l) H := S.fr5.tail
theorem Sep.bk5 {A B C D E F : Asn} (S : Sep (A :: B :: C :: D :: E :: F :: l) H) : Sep (B :: C :: D :: E :: F :: A :: l) H := S.reord [1, 1, 1, 1, 1]
theorem Sep.fr6 {A B C D E F G : Asn} (S : Sep (A :: B :: C :: D :: E :: F :: G :: l) H) : Sep (G :: A :: B :: C :: D :: E :: F :: l) H := S.pick (i := 6) rfl
theorem Sep.dr6 {A B C D E F G : Asn} (S : Sep (A :: B :: C :: D :: E :: F :: G :: l) H) : Sep (A :: B :: C :: D :: E :: F :: l) H := S.fr6.tail
theorem Sep.bk6 {A B C D E F G : Asn} (S : Sep (A :: B :: C :: D :: E :: F :: G :: l) H) : Sep (B :: C :: D :: E :: F :: G :: A :: l) H := S.reord [1, 1, 1, 1, 1, 1]
theorem Sep.fr7 {A B C D E F G J : Asn} (S : Sep (A :: B :: C :: D :: E :: F :: G :: J :: l) H) : Sep (J :: A :: B :: C :: D :: E :: F :: G :: l) H := S.pick (i := 7) rfl
theorem Sep.dr7 {A B C D E F G J : Asn} (S : Sep (A :: B :: C :: D :: E :: F :: G :: J :: l) H) : Sep (A :: B :: C :: D :: E :: F :: G :: l) H := S.fr7.tail
theorem Sep.bk7 {A B C D E F G J : Asn} (S : Sep (A :: B :: C :: D :: E :: F :: G :: J :: l) H) : Sep (B :: C :: D :: E :: F :: G :: J :: A :: l) H := S.reord [1, 1, 1, 1, 1, 1, 1]
theorem Sep.fr8 {A B C D E F G J L : Asn} (S : Sep (A :: B :: C :: D :: E :: F :: G :: J :: L :: l) H) : Sep (L :: A :: B :: C :: D :: E :: F :: G :: J :: l) H := S.pick (i := 8) rfl
theorem Sep.dr8 {A B C D E F G J L : Asn} (S : Sep (A :: B :: C :: D :: E :: F :: G :: J :: L :: l) H) : Sep (A :: B :: C :: D :: E :: F :: G :: J :: l) H := S.fr8.tail
theorem Sep.bk8 {A B C D E F G J L : Asn} (S : Sep (A :: B :: C :: D :: E :: F :: G :: J :: L :: l) H) : Sep (B :: C :: D :: E :: F :: G :: J :: L :: A :: l) H := S.reord [1, 1, 1, 1, 1, 1, 1, 1]
/-! builtins -/
def gInt : List V → Hp → VK → Prop := fun xs H Q => (∃ i, xs = [.int i] ∧ Q (.int i) H) ∨ ∃ k, xs = [.bl k] ∧ Q (.int (if k = true then 1 else 0)) H
theorem call_gInt {X : Cx} : CallR X (.type "int") gInt := call_int1
theorem c_int (q : Q (.int n) H) : gInt [.int n] H Q := .inl ⟨n, rfl, q⟩
def gAbs : List V → Hp → VK → Prop := fun xs H Q => ∃ i, xs = [V.int i] ∧ Q (V.int (if i < 0 then -i else i)) H
theorem call_gAbs {X : Cx} : CallR X (.builtin "abs") gAbs := call_abs
theorem c_abs (q : Q (.int (n.natAbs : Int)) H) : gAbs [.int n] H Q := ⟨n, rfl, by
  have e : (if n < 0 then -n else n) = (n.natAbs : Int) := by split <;> omega
  rw [e]; exact q⟩
theorem c_lenL {e : Nat} (S : Sep l H) (hi : l[e]? = some (At p (.lst xs))) (q : Q (.int (xs.length : Nat)) H) : gLen K [.ref p] H Q := .inl ⟨_, _, rfl, .inl ⟨xs, SqL.of (S.at hi), rfl⟩, q⟩
theorem c_lenM {e : Nat} {α : Type} {f : α → V} {as : List α} (S : Sep l H) (hi : l[e]? = some (At p (.lst (as.map f)))) (q : Q (.int (as.length : Nat)) H) : gLen K [.ref p] H Q := c_lenL S hi (by rw [List.length_map]; exact q)
theorem c_lenS {z : Str} (hz : z.length ≤ sizeLine) (q : Q (.int (z.length : Nat)) H) : gLen K [.str z] H Q := .inl ⟨_, _, rfl, ⟨hz, rfl⟩, q⟩
theorem c_lenT {e : Nat} (S : Sep l H) (hi : l[e]? = some (Tp p xs)) (q : Q (.int (xs.length : Nat)) H) : gLen K [.ref p] H Q := .inl ⟨_, _, rfl, .inr ⟨xs, SqT.of (S.tp hi), rfl⟩, q⟩
theorem c_lenD {e : Nat} {kvs : List (Key × V)} (S : Sep l H) (hi : l[e]? = some (At p (.dK kvs))) (q : Q (.int (kvs.length : Nat)) H) : gLen K [.ref p] H Q := .inr ⟨p, kvs, rfl, S.at hi, q⟩
def gList (K : PySem.W.Frag) : List V → Hp → VK → Prop := fun xs H Q => ∃ p ys, xs = [.ref p] ∧ (SqL K H p ys ∨ SqT K H p ys) ∧ ∀ l, H l = none → Q (.ref l) (upd H l (.lst ys))
theorem call_gList {X : Cx} {K : PySem.W.Frag} (hK : X.K = K) : CallR X (.type "list") (gList K) := by rw [← hK]; exact call_list_of
theorem c_listL {e : Nat} (S : Sep l H) (hi : l[e]? = some (At p (.lst xs))) (k : ∀ d H', Sep (At d (.lst xs) :: l) H' → Q (.ref d) H') : gList K [.ref p] H Q := ⟨p, xs, rfl, .inl (SqL.of (S.at hi)), fun d hd => k d _ (S.new hd)⟩
theorem c_listT {e : Nat} (S : Sep l H) (hi : l[e]? = some (Tp p xs)) (k : ∀ d H', Sep (At d (.lst xs) :: l) H' → Q (.ref d) H') : gList K [.ref p] H Q := ⟨p, xs, rfl, .inr (SqT.of (S.tp hi)), fun d hd => k d _ (S.new hd)⟩
theorem r_BM {T : String} {rm : V → List V → Hp → VK → Prop} (q : ta σ H fun x H1 => tyV K T x H1 ∧ tr σ H1 fun xs H2 => rm x xs H2 Q) : tBM K T rm ta tr σ H Q := q
theorem m_tyL {e : Nat} {R : Prop} (S : Sep l H) (hi : l[e]? = some (At p (.lst xs))) (q : R) : tyV K "list" (.ref p) H ∧ R := ⟨.inl ⟨rfl, _, SqL.of (S.at hi)⟩, q⟩
theorem m_append {e : Nat} (S : Sep l H) (hi : l[e]? = some (At p (.lst xs))) (hz : xs.length < 100000) (k : ∀ H', Sep (l.set e (At p (.lst (xs ++ [v])))) H' → Q .non H') : rAppend (.ref p) [v] H Q :=
  ⟨p, xs, v, rfl, rfl, S.at hi, Nat.lt_of_lt_of_le hz (by decide), k _ (S.upd hi fun _ z => nomatch z)⟩
theorem r_sl {rs : V → Option Int → Option Int → Hp → VK → Prop} {tl th : TO} (q : te σ H fun x H1 => tl σ H1 fun lo H2 => th σ H2 fun hi H3 => rs x lo hi H3 Q) : tSl rs te tl th σ H Q := q
theorem r_part {QO : Option Int → Hp → Prop} (q : te σ H fun x H1 => ∃ i, x = .int i ∧ QO (some i) H1) : tPart te σ H QO := q
theorem r_nopart {QO : Option Int → Hp → Prop} (q : QO none H) : tNoPart σ H QO := q
theorem r_isint {P : Int → Prop} (q : P n) : ∃ i, V.int n = .int i ∧ P i := ⟨n, rfl, q⟩
theorem s_lst {e : Nat} {lo hi : Option Int} (S : Sep l H) (he : l[e]? = some (At p (.lst xs))) (k : ∀ d H', Sep (At d (.lst (cutV xs lo hi)) :: l) H' → Q (.ref d) H') : gSl K (.ref p) lo hi H Q := .inl ⟨p, xs, rfl, SqL.of (S.at he), fun d hd => k d _ (S.new hd)⟩
theorem s_str {z : Str} {lo hi : Option Int} (hz : z.length ≤ sizeLine) (q : Q (.str (cutS z lo hi)) H) : gSl K (.str z) lo hi H Q := .inr ⟨z, rfl, hz, q⟩
end

theorem call_gLen0 {X : Cx} : CallR X (.builtin "len") (gLen X.K) := CallR.or call_len fun pins s σ H xs us Q I r h => by
  obtain ⟨a, kvs, rfl, ha, q⟩ := h
  exact call_lenD pins s σ H _ us Q I r ⟨a, kvs, rfl, ha, q⟩
theorem call_gLen {X : Cx} {K : PySem.W.Frag} (hK : X.K = K) : CallR X (.builtin "len") (gLen K) := by rw [← hK]; exact call_gLen0
/-- the draws' source: the cells, the next cell, what is left of a great one, the number of draws -/
def Src (s : Addr) : Asn := Exs fun (x : Addr × List Int × Int × Int × Int) => Pk [pure' (x.2.1.length ≤ 63 ∧ 0 ≤ x.2.2.1 ∧ 0 ≤ x.2.2.2.1 ∧ 0 ≤ x.2.2.2.2), At s (.lst [.ref x.1, .int x.2.2.1, .int x.2.2.2.1, .int x.2.2.2.2]), At x.1 (.lst (x.2.1.map V.int))]
theorem src_open {s : Addr} {l : List Asn} {H : Hp} (S : Sep (Src s :: l) H) : ∃ (L : Addr) (ns : List Int) (a b c : Int), ns.length ≤ 63 ∧ 0 ≤ a ∧ 0 ≤ b ∧ 0 ≤ c ∧ Sep (At s (.lst [.ref L, .int a, .int b, .int c]) :: At L (.lst (ns.map V.int)) :: l) H := by
  obtain ⟨⟨L, ns, a, b, c⟩, S⟩ := S.ex
  obtain ⟨⟨h1, h2, h3, h4⟩, S⟩ := (S.open').pure
  exact ⟨L, ns, a, b, c, h1, h2, h3, h4, S⟩
theorem src_close {s L : Addr} {ns : List Int} {a b c : Int} {l : List Asn} {H : Hp} (h1 : ns.length ≤ 63) (h2 : 0 ≤ a) (h3 : 0 ≤ b) (h4 : 0 ≤ c) (S : Sep (At s (.lst [.ref L, .int a, .int b, .int c]) :: At L (.lst (ns.map V.int)) :: l) H) : Sep (Src s :: l) H :=
  Sep.ex' (x := (L, ns, a, b, c)) (Sep.close' (l := [_, _, _]) (Sep.pure_in ⟨h1, h2, h3, h4⟩ S))
local macro_rules | `(tactic| walk_at "has") => `(tactic| (first | with_reducible exact has0 | with_reducible exact (hasS has0) | with_reducible exact (hasS (hasS has0)) | with_reducible exact (hasS (hasS (hasS has0))) | with_reducible exact (hasS (hasS (hasS (hasS has0)))) | with_reducible exact (hasS (hasS (hasS (hasS (hasS has0))))) | with_reducible exact (hasS (hasS (hasS (hasS (hasS (hasS has0)))))) | with_reducible exact (hasS (hasS (hasS (hasS (hasS (hasS (hasS has0))))))) | with_reducible exact (hasS (hasS (hasS (hasS (hasS (hasS (hasS (hasS has0)))))))) | with_reducible exact (hasS (hasS (hasS (hasS (hasS (hasS (hasS (hasS (hasS has0))))))))) | with_reducible exact (hasS (hasS (hasS (hasS (hasS (hasS (hasS (hasS (hasS (hasS has0)))))))))) | with_reducible exact (hasS (hasS (hasS (hasS (hasS (hasS (hasS (hasS (hasS (hasS (hasS has0))))))))))) | with_reducible exact (hasS (hasS (hasS (hasS (hasS (hasS (hasS (hasS (hasS (hasS (hasS (hasS has0)))))))))))) | with_reducible exact (hasS (hasS (hasS (hasS (hasS (hasS (hasS (hasS (hasS (hasS (hasS (hasS (hasS has0))))))))))))) | exact has0 | exact (hasS has0) | exact (hasS (hasS has0)) | exact (hasS (hasS (hasS has0))) | exact (hasS (hasS (hasS (hasS has0)))) | exact (hasS (hasS (hasS (hasS (hasS has0))))) | exact (hasS (hasS (hasS (hasS (hasS (hasS has0)))))) | exact (hasS (hasS (hasS (hasS (hasS (hasS (hasS has0))))))) | exact (hasS (hasS (hasS (hasS (hasS (hasS (hasS (hasS has0)))))))) | exact (hasS (hasS (hasS (hasS (hasS (hasS (hasS (hasS (hasS has0))))))))) | exact (hasS (hasS (hasS (hasS (hasS (hasS (hasS (hasS (hasS (hasS has0)))))))))) | exact (hasS (hasS (hasS (hasS (hasS (hasS (hasS (hasS (hasS (hasS (hasS has0))))))))))) | exact (hasS (hasS (hasS (hasS (hasS (hasS (hasS (hasS (hasS (hasS (hasS (hasS has0)))))))))))) | exact (hasS (hasS (hasS (hasS (hasS (hasS (hasS (hasS (hasS (hasS (hasS (hasS (hasS has0)))))))))))))))
local macro_rules | `(tactic| walk_at "alloc") => `(tactic| (first
  | (refine ⟨?hz, fun p hp => ?_⟩; (case hz => (first | decide | (simp only [List.length_cons, List.length_nil]; decide))); (generalize hg : upd _ p _ = H1); first | (have S := newT_eq (by assumption) hp hg; clear hg hp) | (have S := new_eq (by assumption) hp hg; clear hg hp))
  | (refine fun p hp => ?_; (generalize hg : upd _ p _ = H1); first | (have S := newT_eq (by assumption) hp hg; clear hg hp) | (have S := new_eq (by assumption) hp hg; clear hg hp))))
local macro_rules | `(tactic| walk_at "v1") => `(tactic| (first
  | with_reducible refine r_var rfl ?_
  | with_reducible refine r_c ?_
  | with_reducible refine r_op ?_
  | with_reducible refine r_un ?_
  | with_reducible refine r_test ?_
  | with_reducible refine r_B ?_
  | with_reducible refine r_isbl ?_
  | with_reducible refine r_and ?_
  | with_reducible refine r_or ?_
  | with_reducible refine r_not ?_
  | with_reducible refine r_andV ?_
  | with_reducible refine r_orV ?_
  | with_reducible refine r_notV ?_
  | with_reducible refine r_ifE ?_
  | with_reducible refine r_nil ?_
  | with_reducible refine r_cons ?_
  | with_reducible refine r_chain ?_
  | with_reducible refine r_call ?_
  | with_reducible refine r_CB ?_
  | with_reducible refine r_tup ?_
  | with_reducible refine r_list ?_
  | with_reducible refine r_seq ?_
  | with_reducible refine r_next ?_
  | with_reducible refine r_ret ?_
  | with_reducible refine r_retN ?_
  | with_reducible refine r_drop ?_
  | with_reducible refine r_ifS ?_
  | with_reducible refine r_asg ?_
  | with_reducible refine g_name ?_
  | with_reducible refine g_cons ?_
  | with_reducible refine g_nil ?_
  | with_reducible refine g_sub ?_
  | with_reducible refine r_sl ?_
  | with_reducible refine r_part ?_
  | with_reducible refine r_nopart ?_
  | with_reducible refine r_isint ?_
  | with_reducible refine o_add ?_
  | with_reducible refine o_sub ?_
  | with_reducible refine o_neg ?_
  | with_reducible refine o_lt ?_
  | with_reducible refine o_le ?_
  | with_reducible refine o_gt ?_
  | with_reducible refine o_ge ?_
  | with_reducible refine o_eqI ?_
  | with_reducible refine o_eqS ?_
  | with_reducible refine o_eqB ?_
  | with_reducible refine o_neI ?_
  | with_reducible refine o_neS ?_
  | with_reducible refine o_neB ?_
  | with_reducible refine o_is ?_
  | with_reducible refine o_isN ?_
  | with_reducible refine c_int ?_
  | with_reducible refine c_abs ?_
  | ((with_reducible refine o_mulR ?hm ?_); (case hm => (constructor <;> decide)))
  | ((with_reducible refine o_mulL ?hm ?_); (case hm => (constructor <;> decide)))
  | ((with_reducible refine o_mulR ?hm ?_); (case hm => (constructor <;> omega)))
  | ((with_reducible refine o_mulL ?hm ?_); (case hm => (constructor <;> omega)))
  | ((with_reducible refine o_div ?h0 ?h1 ?_); (case h0 => (first | decide | omega | assumption)); (case h1 => (first | decide | omega)))
  | ((with_reducible refine o_mod ?h0 ?_); (case h0 => (first | decide | omega | assumption)); intro _ _ _ _)
  | ((with_reducible refine' o_pow ?h0 ?he ?_); (case h0 => decide); (case he => (simp only [Int.reduceToNat]; rfl)))
  | ((with_reducible refine' x_lstM (by assumption) ?hi ?h0 ?h1 ?_); (case hi => walk_at "has"); (case h0 => (first | omega | assumption)); (case h1 => (first | omega | assumption)); intro _ _)
  | ((with_reducible refine' x_lst (by assumption) ?hi ?ha ?_); (case hi => walk_at "has"); (case ha => rfl))
  | ((with_reducible refine' x_tup (by assumption) ?hi ?ha ?_); (case hi => walk_at "has"); (case ha => rfl))
  | ((with_reducible refine' c_lenM (by assumption) ?hi ?_); (case hi => walk_at "has"))
  | ((with_reducible refine' c_lenL (by assumption) ?hi ?_); (case hi => walk_at "has"))
  | ((with_reducible refine' c_lenT (by assumption) ?hi ?_); (case hi => walk_at "has"))
  | ((with_reducible refine' c_lenD (by assumption) ?hi ?_); (case hi => walk_at "has"))
  | ((with_reducible refine' w_lst (by assumption) ?hi ?ha ?_); (case hi => walk_at "has"); (case ha => rfl); intro _ S; simp only [List.set, Int.reduceToNat] at S)
  | walk_at "alloc"
  | with_reducible refine r_BM ?_
  | ((with_reducible refine' m_append (by assumption) ?hi ?hz ?_); (case hi => walk_at "has"); (case hz => (first | decide | omega | assumption)); intro _ S; simp only [List.set] at S)
  | ((with_reducible refine' m_tyL (by assumption) ?hi ?_); (case hi => walk_at "has"))
  | (with_reducible refine r_ifT rfl ?_)
  | (with_reducible refine r_ifF rfl ?_)
  | ((with_reducible refine r_ifDT ?hc ?_); (case hc => (first | omega | assumption)))
  | ((with_reducible refine r_ifDF ?hc ?_); (case hc => (first | omega | assumption)))
  | ((with_reducible refine r_ifNT ?hc ?_); (case hc => (first | omega | assumption)))
  | ((with_reducible refine r_ifNF ?hc ?_); (case hc => (first | omega | assumption)))
  ))
local macro_rules | `(tactic| walk_at "v") => `(tactic| (repeat (walk_at "v1")))

/-! loops, comprehensions, dicts -/
def ForB (J : It) (g : TG) (tb : TS) (D : Ends) : St → Hp → Prop := fun σ H1 => ∃ W : Nat → Nat → St → Hp → Prop, (∃ m, W 0 m σ H1) ∧ ∀ i m σ H, W i m σ H →
  (J.stop i H ∧ D.nx σ H) ∨ (J.go i H ∧ ∃ N : St → Hp → Prop, (∀ σ' H', N σ' H' → ∃ m', m' < m ∧ W (i + 1) m' σ' H') ∧ ∀ x H', J.yld i H x H' → g x σ H' fun σ2 H2 => tb { D with nx := N, ct := N, bk := D.nx } σ2 H2)
def LcB (J : It) (g : TG) (tt : TT) (te : TE) (vs : List Nat) : St → Hp → VK → Prop := fun σ H1 Q => ∀ D, H1 D = none → ∃ W : Nat → Nat → Hp → Prop, (∃ m, W 0 m (upd H1 D (.lst []))) ∧ ∀ i m H, W i m H →
  (J.stop i H ∧ Q (.ref D) H) ∨ (J.go i H ∧ ∃ Nx : Hp → Prop, (∀ H', Nx H' → ∃ m', m' < m ∧ W (i + 1) m' H') ∧ ∀ x H', J.yld i H x H' → g x (wipe σ vs) H' fun σ2 H2 => wipe σ2 vs = wipe σ vs ∧ tt σ2 H2 fun b H3 =>
    if b = true then te σ2 H3 fun y H4 => ∃ acc, H4 D = some (.lst acc) ∧ acc.length < sizeLine ∧ Nx (upd H4 D (.lst (acc ++ [y]))) else Nx H3)
section
variable {σ : St} {H : Hp} {K : PySem.W.Frag} {g : TG} {tb : TS} {nx bk ct : St → Hp → Prop} {rt : VK} {te ta : TE} {tA : TA} {tt : TT} {vs : List Nat} {Q : VK} {l : List Asn} {n m : Int} {p : Addr} {xs : List V} {D : Ends}
theorem r_forR1 (q : tA σ H fun vs H1 => ∃ j : Int, vs = [.int j] ∧ -(2 ^ 62) ≤ j ∧ j < 2 ^ 62 ∧ ForB (Itr 0 j.toNat) g tb D σ H1) : tFor (iRng1 tA) g tb D σ H := q
theorem r_forR2 (q : tA σ H fun vs H1 => ∃ i j : Int, vs = [.int i, .int j] ∧ (-(2 ^ 62) ≤ i ∧ i < 2 ^ 62 ∧ -(2 ^ 62) ≤ j ∧ j < 2 ^ 62) ∧ ForB (Itr i (j - i).toNat) g tb D σ H1) : tFor (iRng2 tA) g tb D σ H := q
theorem r_forL (q : te σ H fun x H1 => ∃ a, x = .ref a ∧ (∃ xs, SqL K H1 a xs) ∧ ForB (Itl K a) g tb D σ H1) : tFor (iList K te) g tb D σ H := q
theorem r_forT (q : te σ H fun x H1 => ∃ a, x = .ref a ∧ (∃ xs, SqT K H1 a xs) ∧ ForB (Itt K a) g tb D σ H1) : tFor (iTup K te) g tb D σ H := q
theorem r_forK (q : te σ H fun x H1 => ∃ d o, x = .ref d ∧ ((∃ kvs, H1 d = some (.frz o (.dK kvs)) ∧ ForB (Itk d o kvs) g tb D σ H1) ∨ ∃ kvs, H1 d = some (.frz o (.dT kvs)) ∧ ForB (Itkt d o kvs) g tb D σ H1)) : tFor (iKeys te) g tb D σ H := q
theorem r_forI (q : te σ H fun x H1 => ∃ d o kvs, x = .ref d ∧ H1 d = some (.frz o (.dK kvs)) ∧ ForB (Iti d o kvs) g tb D σ H1) : tFor (iItems te) g tb D σ H := q
theorem r_forE (q : tA σ H fun vs H1 => ∃ a xs, vs = [.ref a] ∧ SqL K H1 a xs ∧ ForB (Ite K a) g tb D σ H1) : tFor (iEnum K tA) g tb D σ H := q
/-- for k in range(n) -/
theorem forR (b0 : -(2 ^ 62) ≤ n) (b1 : n < 2 ^ 62) (Pv : Nat → St → Hp → Prop) (h0 : Pv 0 σ H) (hs : ∀ (i : Nat) σ H, (i : Int) < n → Pv i σ H → g (.int (i : Int)) σ H fun σ2 H2 => tb ⟨Pv (i + 1), rt, nx, Pv (i + 1)⟩ σ2 H2)
    (hd : ∀ σ H, Pv n.toNat σ H → nx σ H) : ∃ j : Int, [V.int n] = [.int j] ∧ -(2 ^ 62) ≤ j ∧ j < 2 ^ 62 ∧ ForB (Itr 0 j.toNat) g tb ⟨nx, rt, bk, ct⟩ σ H :=
  ⟨n, rfl, b0, b1, for_range (D := ⟨nx, rt, bk, ct⟩) Pv h0 (fun i σ H hi p => by
    have q := hs i σ H (by omega) p
    have e : (0 : Int) + (i : Int) = (i : Int) := Int.zero_add _
    rw [e]
    exact q) hd⟩
/-- for x in xs -/
theorem forL {e : Nat} (S : Sep l H) (hi : l[e]? = some (At p (.lst xs))) (Pv : Nat → St → Hp → Prop) (h0 : Pv 0 σ H) (hl : ∀ i σ H, Pv i σ H → H p = some (.lst xs))
    (hs : ∀ i x σ H, xs[i]? = some x → Pv i σ H → g x σ H fun σ2 H2 => tb ⟨Pv (i + 1), rt, nx, Pv (i + 1)⟩ σ2 H2) (hd : ∀ σ H, Pv xs.length σ H → nx σ H) :
    ∃ a, V.ref p = .ref a ∧ (∃ xs, SqL K H a xs) ∧ ForB (Itl K a) g tb ⟨nx, rt, bk, ct⟩ σ H :=
  ⟨p, rfl, ⟨xs, SqL.of (S.at hi)⟩, for_list (K := K) (D := ⟨nx, rt, bk, ct⟩) Pv h0 (fun i σ H _ q => SqL.of (hl i σ H q)) hs hd⟩
/-- for i, x in enumerate(xs) -/
theorem forE {e : Nat} (S : Sep l H) (hi : l[e]? = some (At p (.lst xs))) (Pv : Nat → St → Hp → Prop) (h0 : Pv 0 σ H) (hl : ∀ i σ H, Pv i σ H → H p = some (.lst xs))
    (hs : ∀ i x T σ H H', xs[i]? = some x → Pv i σ H → H T = none → H' = upd H T (.tup [.int (i : Nat), x]) → g (.ref T) σ H' fun σ2 H2 => tb ⟨Pv (i + 1), rt, nx, Pv (i + 1)⟩ σ2 H2) (hd : ∀ σ H, Pv xs.length σ H → nx σ H) :
    ∃ a ys, [V.ref p] = [.ref a] ∧ SqL K H a ys ∧ ForB (Ite K a) g tb ⟨nx, rt, bk, ct⟩ σ H := by
  refine ⟨p, xs, rfl, SqL.of (S.at hi), fun i m σ H => m = xs.length - i ∧ i ≤ xs.length ∧ Pv i σ H, ⟨xs.length, by simp, Nat.zero_le _, h0⟩, ?_⟩
  rintro i m σ H ⟨rfl, hi, q⟩
  have hq : SqL K H p xs := SqL.of (hl i σ H q)
  by_cases hlt : i < xs.length
  · refine .inr ⟨⟨xs, xs[i], hq, by simp [hlt]⟩, Pv (i + 1), fun σ' H' p' => ⟨xs.length - (i + 1), by omega, rfl, hlt, p'⟩, fun x H' y => ?_⟩
    obtain ⟨T, z, rfl, hn, rfl, f⟩ := y
    exact hs i z T σ H _ (f xs hq) q hn rfl
  · have e : i = xs.length := by omega
    subst e
    exact .inl ⟨⟨xs, hq, Nat.le_refl _⟩, hd σ H q⟩
/-- for k in d, locked -/
theorem forK {e : Nat} {kvs : List (Key × V)} (S : Sep l H) (hi : l[e]? = some (At p (.dK kvs))) (Pv : Obj → Nat → St → Hp → Prop) (h0 : ∀ od H', Sep (l.set e (At p (.frz od (.dK kvs)))) H' → Pv od 0 σ H') (hl : ∀ od i σ H, Pv od i σ H → H p = some (.frz od (.dK kvs)))
    (hs : ∀ od i k v σ H, kvs[i]? = some (k, v) → Pv od i σ H → g (kV k) σ H fun σ2 H2 => tb ⟨Pv od (i + 1), fun v H' => H' p = some (.frz od (.dK kvs)) ∧ rt v (upd H' p (.dK kvs)), fun σ' H' => H' p = some (.frz od (.dK kvs)) ∧ nx σ' (upd H' p (.dK kvs)), Pv od (i + 1)⟩ σ2 H2)
    (hd : ∀ od σ H, Pv od kvs.length σ H → nx σ (upd H p (.dK kvs))) (hv : ∀ H', te σ H' = fun Q => Q (.ref p) H') : tLock (tFor (iKeys te) g tb) ⟨nx, rt, bk, ct⟩ σ H := by
  refine ⟨p, .dK kvs, S.at hi, trivial, fun od => ?_⟩
  have S' := S.upd hi (o' := .frz od (.dK kvs)) (fun _ z => nomatch z)
  refine r_forK ?_
  rw [hv]
  refine ⟨p, od, rfl, .inl ⟨kvs, upd_same, fun i m σ H => m = kvs.length - i ∧ i ≤ kvs.length ∧ Pv od i σ H, ⟨kvs.length, by simp, Nat.zero_le _, h0 od _ S'⟩, ?_⟩⟩
  rintro i m σ H ⟨rfl, hi, q⟩
  have hq := hl od i σ H q
  by_cases hlt : i < kvs.length
  · refine .inr ⟨⟨hq, hlt⟩, Pv od (i + 1), fun σ' H' p' => ⟨kvs.length - (i + 1), by omega, rfl, hlt, p'⟩, fun x H' y => ?_⟩
    obtain ⟨rfl, k, v, ek, rfl⟩ := y
    exact hs od i k v σ _ ek q
  · have e : i = kvs.length := by omega
    subst e
    exact .inl ⟨⟨hq, Nat.le_refl _⟩, hq, hd od σ H q⟩
/-- .. of d.items() -/
theorem forI {e : Nat} {kvs : List (Key × V)} (S : Sep l H) (hi : l[e]? = some (At p (.dK kvs))) (Pv : Obj → Nat → St → Hp → Prop) (h0 : ∀ od H', Sep (l.set e (At p (.frz od (.dK kvs)))) H' → Pv od 0 σ H') (hl : ∀ od i σ H, Pv od i σ H → H p = some (.frz od (.dK kvs)))
    (hs : ∀ od i k v T σ H H', kvs[i]? = some (k, v) → Pv od i σ H → H T = none → H' = upd H T (.tup [kV k, v]) → g (.ref T) σ H' fun σ2 H2 => tb ⟨Pv od (i + 1), fun v H' => H' p = some (.frz od (.dK kvs)) ∧ rt v (upd H' p (.dK kvs)), fun σ' H' => H' p = some (.frz od (.dK kvs)) ∧ nx σ' (upd H' p (.dK kvs)), Pv od (i + 1)⟩ σ2 H2)
    (hd : ∀ od σ H, Pv od kvs.length σ H → nx σ (upd H p (.dK kvs))) (hv : ∀ H', te σ H' = fun Q => Q (.ref p) H') : tLock (tFor (iItems te) g tb) ⟨nx, rt, bk, ct⟩ σ H := by
  refine ⟨p, .dK kvs, S.at hi, trivial, fun od => ?_⟩
  have S' := S.upd hi (o' := .frz od (.dK kvs)) (fun _ z => nomatch z)
  refine r_forI ?_
  rw [hv]
  refine ⟨p, od, kvs, rfl, upd_same, fun i m σ H => m = kvs.length - i ∧ i ≤ kvs.length ∧ Pv od i σ H, ⟨kvs.length, by simp, Nat.zero_le _, h0 od _ S'⟩, ?_⟩
  rintro i m σ H ⟨rfl, hi, q⟩
  have hq := hl od i σ H q
  by_cases hlt : i < kvs.length
  · refine .inr ⟨⟨hq, hlt⟩, Pv od (i + 1), fun σ' H' p' => ⟨kvs.length - (i + 1), by omega, rfl, hlt, p'⟩, fun x H' y => ?_⟩
    obtain ⟨T, k, v, ek, rfl, hn, rfl⟩ := y
    exact hs od i k v T σ H _ ek q hn rfl
  · have e : i = kvs.length := by omega
    subst e
    exact .inl ⟨⟨hq, Nat.le_refl _⟩, hq, hd od σ H q⟩
/-! comprehensions -/
theorem r_lcL (q : te σ H fun x H1 => ∃ a, x = .ref a ∧ (∃ xs, SqL K H1 a xs) ∧ LcB (Itl K a) g tt ta vs σ H1 Q) : tLc (iList K te) g tt ta vs σ H Q := q
theorem r_lcT (q : te σ H fun x H1 => ∃ a, x = .ref a ∧ (∃ xs, SqT K H1 a xs) ∧ LcB (Itt K a) g tt ta vs σ H1 Q) : tLc (iTup K te) g tt ta vs σ H Q := q
theorem r_lcR1 (q : tA σ H fun vs' H1 => ∃ j : Int, vs' = [.int j] ∧ -(2 ^ 62) ≤ j ∧ j < 2 ^ 62 ∧ LcB (Itr 0 j.toNat) g tt ta vs σ H1 Q) : tLc (iRng1 tA) g tt ta vs σ H Q := q
theorem r_lcS (q : te σ H fun v H1 => ∃ x, v = .str x ∧ LcB (Its x) g tt ta vs σ H1 Q) : tLc (iStr te) g tt ta vs σ H Q := q
theorem upd_eqL {e : Nat} {ys : List V} {H1 : Hp} (S : Sep l H) (hi : l[e]? = some (At p (.lst xs))) (hg : upd H p (.lst ys) = H1) : Sep (l.set e (At p (.lst ys))) H1 := by
  rw [← hg]
  exact S.upd hi fun _ z => nomatch z
theorem lc_put1 {e : Nat} {acc : List V} {D : Addr} {R : List V → Prop} (S : Sep l H) (hi : l[e]? = some (At D (.lst acc))) (hz : acc.length < 100000) (k : R acc) : ∃ acc', H D = some (.lst acc') ∧ acc'.length < sizeLine ∧ R acc' := ⟨acc, S.at hi, Nat.lt_of_lt_of_le hz (by decide), k⟩
/-- the turn's end: the item goes to the new list -/
theorem lc_put {e : Nat} {acc : List V} {v : V} {D : Addr} {Nx : Hp → Prop} (S : Sep l H) (hi : l[e]? = some (At D (.lst acc))) (hz : acc.length < 100000) (k : ∀ H', Sep (l.set e (At D (.lst (acc ++ [v])))) H' → Nx H') :
    ∃ acc', H D = some (.lst acc') ∧ acc'.length < sizeLine ∧ Nx (upd H D (.lst (acc' ++ [v]))) := ⟨acc, S.at hi, Nat.lt_of_lt_of_le hz (by decide), k _ (S.upd hi fun _ z => nomatch z)⟩
abbrev LcT (g : TG) (tt : TT) (ta : TE) (vs : List Nat) (σ : St) (x : V) (D : Addr) (N : Hp → Prop) (H : Hp) : Prop := g x (wipe σ vs) H fun σ2 H2 => wipe σ2 vs = wipe σ vs ∧ tt σ2 H2 fun b H3 =>
      if b = true then ta σ2 H3 fun y H4 => ∃ acc, H4 D = some (.lst acc) ∧ acc.length < sizeLine ∧ N (upd H4 D (.lst (acc ++ [y]))) else N H3
theorem lc_turn {x : V} {N : Hp → Prop} {D : Addr} (q : g x (wipe σ vs) H fun σ2 H2 => wipe σ2 vs = wipe σ vs ∧ tt σ2 H2 fun b H3 =>
      if b = true then ta σ2 H3 fun y H4 => ∃ acc, H4 D = some (.lst acc) ∧ acc.length < sizeLine ∧ N (upd H4 D (.lst (acc ++ [y]))) else N H3) : LcT g tt ta vs σ x D N H := q
/-- [e for x in xs if ..], xs at an address of ours; D: the new list's address -/
theorem lcL {e : Nat} (S : Sep l H) (hi : l[e]? = some (At p (.lst xs))) (Pv : Addr → Nat → Hp → Prop) (h0 : ∀ D H', Sep (At D (.lst []) :: l) H' → Pv D 0 H') (hl : ∀ D i H, Pv D i H → H p = some (.lst xs))
    (hs : ∀ D i x H, xs[i]? = some x → Pv D i H → LcT g tt ta vs σ x D (Pv D (i + 1)) H) (hd : ∀ D H, Pv D xs.length H → Q (.ref D) H) : ∃ a, V.ref p = .ref a ∧ (∃ xs, SqL K H a xs) ∧ LcB (Itl K a) g tt ta vs σ H Q :=
  ⟨p, rfl, ⟨xs, SqL.of (S.at hi)⟩, fun D hD => lc_list (K := K) (Pv D) (h0 D _ (S.new hD)) (fun i H _ q => SqL.of (hl D i H q)) (hs D) (hd D)⟩
/-- .. over range(n) -/
theorem lcR (S : Sep l H) (b0 : -(2 ^ 62) ≤ n) (b1 : n < 2 ^ 62) (Pv : Addr → Nat → Hp → Prop) (h0 : ∀ D H', Sep (At D (.lst []) :: l) H' → Pv D 0 H')
    (hs : ∀ D (i : Nat) H, (i : Int) < n → Pv D i H → LcT g tt ta vs σ (.int (i : Int)) D (Pv D (i + 1)) H) (hd : ∀ D H, Pv D n.toNat H → Q (.ref D) H) : ∃ j : Int, [V.int n] = [.int j] ∧ -(2 ^ 62) ≤ j ∧ j < 2 ^ 62 ∧ LcB (Itr 0 j.toNat) g tt ta vs σ H Q :=
  ⟨n, rfl, b0, b1, fun D hD => lc_range (Pv D) (h0 D _ (S.new hD)) (fun i H hi q => by
    have e : (0 : Int) + (i : Int) = (i : Int) := Int.zero_add _
    rw [e]
    exact hs D i H (by omega) q) (hd D)⟩
/-- .. over the signs of a text -/
theorem lcS {x : Str} (S : Sep l H) (Pv : Addr → Nat → Hp → Prop) (h0 : ∀ D H', Sep (At D (.lst []) :: l) H' → Pv D 0 H')
    (hs : ∀ D (i : Nat) c H, x.cps[i]? = some c → Pv D i H → LcT g tt ta vs σ (.str ⟨#[c]⟩) D (Pv D (i + 1)) H) (hd : ∀ D H, Pv D x.cps.size H → Q (.ref D) H) : ∃ z, V.str x = .str z ∧ LcB (Its z) g tt ta vs σ H Q := by
  refine ⟨x, rfl, fun D hD => ⟨fun i m H => m = x.cps.size - i ∧ i ≤ x.cps.size ∧ Pv D i H, ⟨x.cps.size, by simp, Nat.zero_le _, h0 D _ (S.new hD)⟩, ?_⟩⟩
  rintro i m H ⟨rfl, hi, q⟩
  by_cases hlt : i < x.cps.size
  · refine .inr ⟨hlt, Pv D (i + 1), fun H' p' => ⟨x.cps.size - (i + 1), by omega, rfl, hlt, p'⟩, fun y H' z => ?_⟩
    obtain ⟨rfl, c, ec, rfl⟩ := z
    exact hs D i c _ ec q
  · have e : i = x.cps.size := by omega
    subst e
    exact .inl ⟨Nat.le_refl _, hd D H q⟩
/-- .. over the keys of a dict, locked -/
theorem lcK {e : Nat} {kvs : List (Key × V)} (S : Sep l H) (hi : l[e]? = some (At p (.dK kvs))) (Pv : Obj → Addr → Nat → Hp → Prop) (h0 : ∀ od D H', Sep (At D (.lst []) :: l.set e (At p (.frz od (.dK kvs)))) H' → Pv od D 0 H') (hl : ∀ od D i H, Pv od D i H → H p = some (.frz od (.dK kvs)))
    (hs : ∀ od D i k v H, kvs[i]? = some (k, v) → Pv od D i H → LcT g tt ta vs σ (kV k) D (Pv od D (i + 1)) H) (hd : ∀ od D H, Pv od D kvs.length H → Q (.ref D) (upd H p (.dK kvs))) (hv : ∀ H', te σ H' = fun Q => Q (.ref p) H') : tLockE (tLc (iKeys te) g tt ta vs) σ H Q := by
  refine ⟨p, .dK kvs, S.at hi, trivial, fun od => ?_⟩
  have S' := S.upd hi (o' := .frz od (.dK kvs)) (fun _ z => nomatch z)
  show te σ _ _
  rw [hv]
  refine ⟨p, od, rfl, .inl ⟨kvs, upd_same, fun D hD => ⟨fun i m H => m = kvs.length - i ∧ i ≤ kvs.length ∧ Pv od D i H, ⟨kvs.length, by simp, Nat.zero_le _, h0 od D _ (S'.new hD)⟩, ?_⟩⟩⟩
  rintro i m H ⟨rfl, hi, q⟩
  have hq := hl od D i H q
  by_cases hlt : i < kvs.length
  · refine .inr ⟨⟨hq, hlt⟩, Pv od D (i + 1), fun H' p' => ⟨kvs.length - (i + 1), by omega, rfl, hlt, p'⟩, fun x H' y => ?_⟩
    obtain ⟨rfl, k, v, ek, rfl⟩ := y
    exact hs od D i k v _ ek q
  · have e : i = kvs.length := by omega
    subst e
    exact .inl ⟨⟨hq, Nat.le_refl _⟩, hq, hd od D H q⟩
/-- .. over d.items(), locked -/
theorem lcI {e : Nat} {kvs : List (Key × V)} (S : Sep l H) (hi : l[e]? = some (At p (.dK kvs))) (Pv : Obj → Addr → Nat → Hp → Prop) (h0 : ∀ od D H', Sep (At D (.lst []) :: l.set e (At p (.frz od (.dK kvs)))) H' → Pv od D 0 H') (hl : ∀ od D i H, Pv od D i H → H p = some (.frz od (.dK kvs)))
    (hs : ∀ od D i k v T H H', kvs[i]? = some (k, v) → Pv od D i H → H T = none → H' = upd H T (.tup [kV k, v]) → LcT g tt ta vs σ (.ref T) D (Pv od D (i + 1)) H') (hd : ∀ od D H, Pv od D kvs.length H → Q (.ref D) (upd H p (.dK kvs))) (hv : ∀ H', te σ H' = fun Q => Q (.ref p) H') : tLockE (tLc (iItems te) g tt ta vs) σ H Q := by
  refine ⟨p, .dK kvs, S.at hi, trivial, fun od => ?_⟩
  have S' := S.upd hi (o' := .frz od (.dK kvs)) (fun _ z => nomatch z)
  show te σ _ _
  rw [hv]
  refine ⟨p, od, kvs, rfl, upd_same, fun D hD => ⟨fun i m H => m = kvs.length - i ∧ i ≤ kvs.length ∧ Pv od D i H, ⟨kvs.length, by simp, Nat.zero_le _, h0 od D _ (S'.new hD)⟩, ?_⟩⟩
  rintro i m H ⟨rfl, hi, q⟩
  have hq := hl od D i H q
  by_cases hlt : i < kvs.length
  · refine .inr ⟨⟨hq, hlt⟩, Pv od D (i + 1), fun H' p' => ⟨kvs.length - (i + 1), by omega, rfl, hlt, p'⟩, fun x H' y => ?_⟩
    obtain ⟨T, k, v, ek, rfl, hn, rfl⟩ := y
    exact hs od D i k v T H _ ek q hn rfl
  · have e : i = kvs.length := by omega
    subst e
    exact .inl ⟨⟨hq, Nat.le_refl _⟩, hq, hd od D H q⟩
/-! rules that name the written part -/
section
variable {X : Cx} (hK : X.K = K)
include hK
theorem pi_gList {tg e : Expr} (h : PE X e te) : PI X tg e (iList K te) := by rw [← hK]; exact pi_list h
theorem pi_gTup {tg e : Expr} (h : PE X e te) : PI X tg e (iTup K te) := by rw [← hK]; exact pi_tup h
theorem pg_gTup {pos : Pos} {es : List Expr} {k : Nat} {t : TGs} {n : Nat} (hc : X.calm = true) (h : PGs X es t) (hn : (assignEach es X.env).length = n := by rfl) (hpl : (assignEach es X.env).findIdx? (·.1) = none := by rfl) : PG X (.Tuple es k pos) (gTup K n t) := by rw [← hK]; exact pg_tup hc h hn hpl
theorem pe_gFld {e : Expr} {f : Str} {pos : Pos} (h : PE X e te) (hb : attributeBase e f X.env (eval e X.env) = eval e X.env) : PE X (.Attribute e f pos) (tFld K te f) := by rw [← hK]; exact pe_fld h hb
end
/-! a word between a statement and the rest -/
def tCut (t u : TS) : TS := fun D σ H => ∃ Mid : St → Hp → Prop, t { D with nx := Mid } σ H ∧ ∀ σ' H', Mid σ' H' → u D σ' H'
theorem pss_cut {X : Cx} {st : Stmt} {rest : List Stmt} {t u : TS} (h1 : PS X st t) (h2 : PSs X rest u) : PSs X (st :: rest) (tCut t u) := by
  refine ⟨fun pins s σ H D I h => ?_⟩
  obtain ⟨Mid, hm, hu⟩ := h
  refine wpAny_execs_cons (thn (h1.run pins s σ H { D with nx := Mid } I hm) fun f s1 q => ?_)
  cases f with
  | next =>
    obtain ⟨σ', H', I', q⟩ := q
    exact h2.run pins s1 σ' H' D I' (hu σ' H' q)
  | ret v => exact q
  | brk => exact q
  | cont => exact q
theorem r_cut {ts tz : TS} (Mid : St → Hp → Prop) (h : ts ⟨Mid, rt, bk, ct⟩ σ H) (k : ∀ σ' H', Mid σ' H' → tz ⟨nx, rt, bk, ct⟩ σ' H') : tCut ts tz ⟨nx, rt, bk, ct⟩ σ H := ⟨Mid, h, k⟩
/-! dicts -/
theorem d_get2 {td ty tx : TE} (q : td σ H fun x H1 => ∃ a, x = .ref a ∧ IsD H1 a ∧ ty σ H1 fun y H2 => tx σ H2 fun z H3 => ∃ o, DGet H3 a y o ∧ Q (o.getD z) H3) : tDGet2 td ty tx σ H Q := q
theorem d_get {td ty : TE} (q : td σ H fun x H1 => ty σ H1 fun y H2 => ∃ a v, x = .ref a ∧ DGet H2 a y (some v) ∧ Q v H2) : tDGet td ty σ H Q := q
theorem d_put {td ty tv : TE} (q : tv σ H fun v H1 => td σ H1 fun x H2 => ty σ H2 fun y H3 => ∃ a H4, x = .ref a ∧ DPut H3 a y v H4 ∧ nx σ H4) : sDPut td ty tv ⟨nx, rt, bk, ct⟩ σ H := q
end

/-! data: tuples of data, lists of data -/
mutual
inductive IsD (H : Hp) : V → PyData → Prop
  | non : IsD H .non .none
  | bl (b : Bool) : IsD H (.bl b) (.bool b)
  | int (i : Int) : IsD H (.int i) (.int i)
  | str (x : Str) : IsD H (.str x) (.str x)
  | tup {q : Addr} {vs : List V} {ds : List PyData} : H q = some (.tup vs) → IsDs H vs ds → IsD H (.ref q) (.tuple ds)
inductive IsDs (H : Hp) : List V → List PyData → Prop
  | nil : IsDs H [] []
  | cons {v : V} {vs : List V} {d : PyData} {ds : List PyData} : IsD H v d → IsDs H vs ds → IsDs H (v :: vs) (d :: ds)
end
mutual
theorem IsD.tx {H H' : Hp} (t : Tx H H') : ∀ {v : V} {d : PyData}, IsD H v d → IsD H' v d
  | _, _, .non => .non
  | _, _, .bl b => .bl b
  | _, _, .int i => .int i
  | _, _, .str x => .str x
  | _, _, .tup h r => .tup (t _ _ h) (IsDs.tx t r)
theorem IsDs.tx {H H' : Hp} (t : Tx H H') : ∀ {vs : List V} {ds : List PyData}, IsDs H vs ds → IsDs H' vs ds
  | _, _, .nil => .nil
  | _, _, .cons h r => .cons (IsD.tx t h) (IsDs.tx t r)
end
mutual
theorem IsD.dp {K : PySem.W.Frag} {H : Hp} : ∀ {v : V} {d : PyData}, IsD H v d → Dp K H v d
  | _, _, .non => .non
  | _, _, .bl b => .bl b
  | _, _, .int i => .int i
  | _, _, .str x => .str x
  | _, _, .tup h r => .tup (SqT.of h) (IsDs.dp r)
theorem IsDs.dp {K : PySem.W.Frag} {H : Hp} : ∀ {vs : List V} {ds : List PyData}, IsDs H vs ds → DpAll K H vs ds
  | _, _, .nil => .nil
  | _, _, .cons h r => .cons (IsD.dp h) (IsDs.dp r)
end
theorem IsDs.len {H : Hp} : ∀ {vs : List V} {ds : List PyData}, IsDs H vs ds → vs.length = ds.length
  | _, _, .nil => rfl
  | _, _, .cons _ r => congrArg (· + 1) r.len
theorem IsDs.get {H : Hp} : ∀ {vs : List V} {ds : List PyData} {i : Nat} {v : V}, IsDs H vs ds → vs[i]? = some v → ∃ d, ds[i]? = some d ∧ IsD H v d
  | _, _, _, _, .nil, e => by cases e
  | _, _, 0, _, .cons h _, e => by cases e; exact ⟨_, rfl, h⟩
  | _, _, i + 1, _, .cons _ r, e => r.get (i := i) e
theorem IsDs.snoc {H : Hp} {v : V} {d : PyData} (h : IsD H v d) : ∀ {vs : List V} {ds : List PyData}, IsDs H vs ds → IsDs H (vs ++ [v]) (ds ++ [d])
  | _, _, .nil => .cons h .nil
  | _, _, .cons k r => .cons k (r.snoc h)
theorem IsDs.app {H : Hp} : ∀ {vs ws : List V} {ds es : List PyData}, IsDs H vs ds → IsDs H ws es → IsDs H (vs ++ ws) (ds ++ es)
  | _, _, _, _, .nil, s => s
  | _, _, _, _, .cons k r, s => .cons k (r.app s)
/-- data at a value, for good -/
def DV (v : V) (d : PyData) : Asn := ⟨fun f H => IsD H v d ∧ ∀ a, ¬ f a, fun _ _ h a z => (h.2 a z).elim, fun _ _ _ h _ t => ⟨h.1.tx t, h.2⟩⟩
def DVs (vs : List V) (ds : List PyData) : Asn := ⟨fun f H => IsDs H vs ds ∧ ∀ a, ¬ f a, fun _ _ h a z => (h.2 a z).elim, fun _ _ _ h _ t => ⟨h.1.tx t, h.2⟩⟩
/-- a list of data -/
def LD (a : Addr) (ds : List PyData) : Asn := Exs fun vs : List V => Pk [At a (.lst vs), DVs vs ds]
section
variable {l : List Asn} {H : Hp} {i : Nat} {A : Asn} {a : Addr} {ds : List PyData} {vs : List V} {v : V} {d : PyData}
theorem Sep.dv (S : Sep l H) (e : l[i]? = some (DV v d)) : IsD H v d := (S.get e).elim fun _ h => h.1
theorem Sep.dvs (S : Sep l H) (e : l[i]? = some (DVs vs ds)) : IsDs H vs ds := (S.get e).elim fun _ h => h.1
/-- what is true for good is added -/
theorem Sep.know (S : Sep l H) (h : A.h (fun _ => False) H) : Sep (A :: l) H := by
  obtain ⟨g, S⟩ := S
  exact ⟨_, .cons h S fun _ z => z.elim⟩
theorem Sep.addD (S : Sep l H) (h : IsD H v d) : Sep (DV v d :: l) H := S.know ⟨h, fun _ z => z⟩
theorem Sep.addDs (S : Sep l H) (h : IsDs H vs ds) : Sep (DVs vs ds :: l) H := S.know ⟨h, fun _ z => z⟩
theorem Sep.addT {q : Addr} {xs : List V} (S : Sep l H) (h : H q = some (.tup xs)) : Sep (Tp q xs :: l) H := S.know ⟨h, fun _ z => z⟩
theorem ld_open (S : Sep (LD a ds :: l) H) : ∃ vs, IsDs H vs ds ∧ Sep (At a (.lst vs) :: DVs vs ds :: l) H := by
  obtain ⟨vs, S⟩ := S.ex
  have S := S.open'
  exact ⟨vs, S.dvs (i := 1) rfl, S⟩
theorem ld_close (h : IsDs H vs ds) (S : Sep (At a (.lst vs) :: l) H) : Sep (LD a ds :: l) H :=
  Sep.ex' (x := vs) (Sep.close' (l := [_, _]) ((S.addDs h).reord [1, 0]))
theorem ld_dp {K : PySem.W.Frag} (S : Sep l H) (e : l[i]? = some (LD a ds)) : Dp K H (.ref a) (.list ds) := by
  obtain ⟨vs, h, S⟩ := ld_open (S.pick e)
  exact .lst (SqL.of (S.at (i := 0) rfl)) h.dp
end
/-- pairs of a word and a number -/
def pd (x : Str × Int) : PyData := .tuple [.str x.1, .int x.2]
abbrev pds (ps : List (Str × Int)) : List PyData := ps.map pd
theorem isD_pair {H : Hp} {v : V} {x : Str × Int} (h : IsD H v (pd x)) : ∃ q, v = .ref q ∧ H q = some (.tup [.str x.1, .int x.2]) := by
  cases h with
  | @tup q vs _ hq r =>
    cases r with
    | cons h1 r =>
      cases h1
      cases r with
      | cons h2 r =>
        cases h2
        cases r
        exact ⟨q, rfl, hq⟩
theorem pair_isD {H : Hp} {q : Addr} {w : Str} {n : Int} (h : H q = some (.tup [.str w, .int n])) : IsD H (.ref q) (pd (w, n)) := .tup h (.cons (.str w) (.cons (.int n) .nil))
theorem ps_get {H : Hp} {vs : List V} {ps : List (Str × Int)} {i : Nat} {v : V} (h : IsDs H vs (pds ps)) (e : vs[i]? = some v) : ∃ q x, ps[i]? = some x ∧ v = .ref q ∧ H q = some (.tup [.str x.1, .int x.2]) := by
  obtain ⟨d, e1, h1⟩ := h.get e
  rw [List.getElem?_map] at e1
  cases e2 : ps[i]? with
  | none => rw [e2] at e1; cases e1
  | some x =>
    rw [e2] at e1
    cases e1
    obtain ⟨q, rfl, hq⟩ := isD_pair h1
    exact ⟨q, x, rfl, rfl, hq⟩
theorem ps_len {H : Hp} {vs : List V} {ps : List (Str × Int)} (h : IsDs H vs (pds ps)) : vs.length = ps.length := by rw [h.len, List.length_map]
/-! ### words -/
def abc : List Nat := ("abcdefghijklmnopqrstuvwxyz" : Str).cps.toList
def Wd (w : Str) : Prop := 1 ≤ w.length ∧ w.length ≤ 8 ∧ ∀ c ∈ w.cps.toList, c ∈ abc
instance (w : Str) : Decidable (Wd w) := by unfold Wd; infer_instance
/-- good pairs -/
def Gp (ps : List (Str × Int)) : Prop := ∀ x ∈ ps, Wd x.1 ∧ -(10 ^ 30) < x.2 ∧ x.2 < 10 ^ 30
theorem abc_len : abc.length = 26 := by decide +kernel
section
variable {l : List Asn} {H : Hp} {K : PySem.W.Frag} {Q : VK} {n : Int} {z : Str}
theorem x_strI (hz : z.length ≤ 1000) (h0 : 0 ≤ n) (h1 : n < z.cps.toList.length) (k : ∀ c, c ∈ z.cps.toList → Q (.str ⟨#[c]⟩) H) : rIx K (.str z) (.int n) H Q := by
  obtain ⟨y, e1, e2⟩ := atI_in h0 h1
  exact x_str (Nat.le_trans hz (by decide)) e2 (k y (List.mem_of_getElem? e1))
theorem str_len_app (a b : Str) : (a ++ b).length = a.length + b.length := by
  show (a.cps ++ b.cps).size = _
  rw [Array.size_append]; rfl
theorem str_app (a b : Str) : (a ++ b).cps.toList = a.cps.toList ++ b.cps.toList := by
  show (a.cps ++ b.cps).toList = _
  rw [Array.toList_append]
end

/-! dicts of words and numbers -/
/-- the number of a word -/
def num : List (Str × Int) → Str → Int
  | [], _ => 0
  | x :: m, w => if x.1 = w then x.2 else num m w
def keys (m : List (Str × Int)) : List Str := m.map (·.1)
abbrev mp (m : List (Str × Int)) : List (Key × V) := m.map fun x => (Sum.inr x.1, V.int x.2)
def mput : List (Str × Int) → Str → Int → List (Str × Int)
  | [], w, n => [(w, n)]
  | x :: m, w, n => if x.1 = w then (x.1, n) :: m else x :: mput m w n
theorem num_put : ∀ (m : List (Str × Int)) (w : Str) (n : Int) (v : Str), num (mput m w n) v = if v = w then n else num m v
  | [], w, n, v => by
    show (if w = v then n else 0) = _
    by_cases h : v = w
    · rw [if_pos h, if_pos h.symm]
    · rw [if_neg h, if_neg (fun z => h z.symm)]; rfl
  | x :: m, w, n, v => by
    unfold mput
    by_cases hx : x.1 = w
    · rw [if_pos hx]
      show (if x.1 = v then n else num m v) = if v = w then n else (if x.1 = v then x.2 else num m v)
      by_cases h : v = w
      · rw [if_pos h, if_pos (by rw [hx, h])]
      · rw [if_neg h, if_neg (fun z => h (by rw [← z, hx])), if_neg (fun z => h (by rw [← z, hx]))]
    · rw [if_neg hx]
      show (if x.1 = v then x.2 else num (mput m w n) v) = if v = w then n else (if x.1 = v then x.2 else num m v)
      rw [num_put m w n v]
      by_cases h : v = w
      · rw [if_pos h, if_pos h, if_neg (fun z => hx (by rw [z, h]))]
      · rw [if_neg h, if_neg h]
theorem keys_put : ∀ (m : List (Str × Int)) (w : Str) (n : Int), keys (mput m w n) = if w ∈ keys m then keys m else keys m ++ [w]
  | [], w, n => by
    rw [if_neg (by intro h; cases h)]; rfl
  | x :: m, w, n => by
    unfold mput
    by_cases hx : x.1 = w
    · rw [if_pos hx, if_pos (by show w ∈ x.1 :: keys m; rw [hx]; exact List.mem_cons_self)]; rfl
    · rw [if_neg hx]
      show x.1 :: keys (mput m w n) = if w ∈ x.1 :: keys m then x.1 :: keys m else (x.1 :: keys m) ++ [w]
      rw [keys_put m w n]
      by_cases h : w ∈ keys m
      · rw [if_pos h, if_pos (show w ∈ x.1 :: keys m from List.mem_cons_of_mem _ h)]
      · rw [if_neg h, if_neg (show ¬ w ∈ x.1 :: keys m by
          intro z
          rcases List.mem_cons.1 z with z | z
          · exact hx z.symm
          · exact h z), List.cons_append]
theorem nodup_put {m : List (Str × Int)} (h : (keys m).Nodup) (w : Str) (n : Int) : (keys (mput m w n)).Nodup := by
  rw [keys_put]
  split
  · exact h
  · rename_i hw
    exact nd_snoc h hw
theorem len_put (m : List (Str × Int)) (w : Str) (n : Int) : (mput m w n).length ≤ m.length + 1 := by
  have e := congrArg List.length (keys_put m w n)
  unfold keys at e
  rw [List.length_map] at e
  rw [e]
  split <;> simp
theorem len_put_in {m : List (Str × Int)} {w : Str} (n : Int) (h : w ∈ keys m) : (mput m w n).length = m.length := by
  have e := congrArg List.length (keys_put m w n)
  rw [if_pos h] at e
  unfold keys at e
  rw [List.length_map, List.length_map] at e
  exact e
theorem mem_put {m : List (Str × Int)} {w v : Str} {n : Int} (h : v ∈ keys (mput m w n)) : v = w ∨ v ∈ keys m := by
  rw [keys_put] at h
  split at h
  · exact .inr h
  · rcases List.mem_append.1 h with h | h
    · exact .inr h
    · exact .inl (List.mem_singleton.1 h)
theorem val_mp : ∀ (m : List (Str × Int)) (w : Str), valV (mp m) (Sum.inr w : Key) = if w ∈ keys m then some (V.int (num m w)) else none
  | [], w => by rw [if_neg (by intro h; cases h)]; rfl
  | x :: m, w => by
    by_cases hx : x.1 = w
    · rw [if_pos (show w ∈ keys (x :: m) by rw [← hx]; exact List.mem_cons_self)]
      show valV ((Sum.inr x.1, V.int x.2) :: mp m) (Sum.inr w : Key) = some (V.int (if x.1 = w then x.2 else num m w))
      rw [if_pos hx]
      exact valV_pos (congrArg Sum.inr hx)
    · show valV ((Sum.inr x.1, V.int x.2) :: mp m) (Sum.inr w : Key) = _
      rw [valV_neg (show ¬ (Sum.inr x.1 : Key) = Sum.inr w from fun z => hx (Sum.inr.inj z)), val_mp m w]
      show (if w ∈ keys m then some (V.int (num m w)) else none) = if w ∈ x.1 :: keys m then some (V.int (if x.1 = w then x.2 else num m w)) else none
      rw [if_neg hx]
      by_cases h : w ∈ keys m
      · rw [if_pos h, if_pos (List.mem_cons_of_mem _ h)]
      · rw [if_neg h, if_neg (by
          intro z
          rcases List.mem_cons.1 z with z | z
          · exact hx z.symm
          · exact h z)]
theorem put_mp (m : List (Str × Int)) (w : Str) (n : Int) (hn : (keys m).Nodup) : putK (mp m) (Sum.inr w : Key) (V.int n) = mp (mput m w n) := by
  induction m with
  | nil => rfl
  | cons x m ih =>
    have ih := ih (List.nodup_cons.1 hn).2
    have hv := val_mp (x :: m) w
    by_cases hx : x.1 = w
    · unfold mput
      rw [if_pos hx]
      unfold putK
      rw [if_pos (by rw [valV_any, hv, if_pos (show w ∈ keys (x :: m) by rw [← hx]; exact List.mem_cons_self)]; rfl)]
      show _ :: _ = _ :: _
      have hw : ¬ w ∈ keys m := by rw [← hx]; exact (List.nodup_cons.1 hn).1
      congr 1
      · show (if (Sum.inr x.1 : Key) = Sum.inr w then (Sum.inr x.1, V.int n) else (Sum.inr x.1, V.int x.2)) = _
        rw [if_pos (congrArg Sum.inr hx)]
      · show (mp m).map _ = mp m
        rw [List.map_map]
        apply List.map_congr_left
        intro y hy
        show (if (Sum.inr y.1 : Key) = Sum.inr w then (Sum.inr y.1, V.int n) else (Sum.inr y.1, V.int y.2)) = _
        rw [if_neg (fun z => hw (by rw [← Sum.inr.inj z]; exact List.mem_map_of_mem hy))]
    · unfold mput
      rw [if_neg hx]
      show putK ((Sum.inr x.1, V.int x.2) :: mp m) _ _ = (Sum.inr x.1, V.int x.2) :: mp (mput m w n)
      rw [← ih]
      have hne : ¬ (Sum.inr x.1 : Key) = Sum.inr w := fun z => hx (Sum.inr.inj z)
      unfold putK
      rw [List.any_cons, decide_eq_false hne, Bool.false_or]
      by_cases ha : ((mp m).any fun kv => decide (kv.1 = (Sum.inr w : Key))) = true
      · rw [if_pos ha, if_pos ha, List.map_cons]
        congr 1
        show (if (Sum.inr x.1 : Key) = Sum.inr w then _ else _) = _
        rw [if_neg hne]
      · rw [if_neg ha, if_neg ha]; rfl
theorem num_none {m : List (Str × Int)} {w : Str} (h : ¬ w ∈ keys m) : num m w = 0 := by
  induction m with
  | nil => rfl
  | cons x m ih =>
    show (if x.1 = w then x.2 else num m w) = 0
    rw [if_neg (fun z => h (by rw [← z]; exact List.mem_cons_self)), ih (fun z => h (List.mem_cons_of_mem _ z))]
theorem num_in {m : List (Str × Int)} (hn : (keys m).Nodup) {x : Str × Int} (h : x ∈ m) : num m x.1 = x.2 := by
  induction m with
  | nil => cases h
  | cons y m ih =>
    show (if y.1 = x.1 then y.2 else num m x.1) = x.2
    rcases List.mem_cons.1 h with h | h
    · rw [h, if_pos rfl]
    · rw [if_neg (fun z => (List.nodup_cons.1 hn).1 (by show y.1 ∈ keys m; rw [z]; exact List.mem_map_of_mem h))]
      exact ih (List.nodup_cons.1 hn).2 h
theorem key_num {m : List (Str × Int)} (hn : (keys m).Nodup) {w : Str} (h : w ∈ keys m) : (w, num m w) ∈ m := by
  obtain ⟨x, hx, e⟩ := List.mem_map.1 h
  have q := num_in hn hx
  rw [← e, q]
  exact hx
/-- the sum of a word's numbers -/
def psum : List (Str × Int) → Str → Int
  | [], _ => 0
  | x :: ps, w => (if x.1 = w then x.2 else 0) + psum ps w
theorem psum_app : ∀ (ps qs : List (Str × Int)) (w : Str), psum (ps ++ qs) w = psum ps w + psum qs w
  | [], qs, w => by show _ = 0 + _; rw [Int.zero_add]; rfl
  | x :: ps, qs, w => by
    show _ + psum (ps ++ qs) w = _ + psum ps w + _
    rw [psum_app ps qs w, Int.add_assoc]
/-! steps -/
section
variable {σ : St} {H : Hp} {i j : Nat} {v x y z : V} {td ty tx tv : TE} {Q : VK} {l : List Asn} {d : Addr} {m : List (Str × Int)} {w : Str} {n : Int} {nx bk ct : St → Hp → Prop} {rt : VK} {RV : V → Prop} {RO : Option V → Prop} {RB : Bool → Prop} {RH : Hp → Prop}
theorem e_isd {e : Nat} {kvs : List (Key × V)} {R : Addr → Prop} (S : Sep l H) (hi : l[e]? = some (At d (.dK kvs))) (q : R d) : ∃ a, V.ref d = .ref a ∧ L2.IsD H a ∧ R a := ⟨d, rfl, .inl ⟨kvs, .inl (S.at hi)⟩, q⟩
theorem e_isdF {e : Nat} {kvs : List (Key × V)} {od : Obj} {R : Addr → Prop} (S : Sep l H) (hi : l[e]? = some (At d (.frz od (.dK kvs)))) (q : R d) : ∃ a, V.ref d = .ref a ∧ L2.IsD H a ∧ R a := ⟨d, rfl, .inl ⟨kvs, .inr ⟨od, S.at hi⟩⟩, q⟩
theorem dget_of {kvs : List (Key × V)} (h : Rd H d (.dK kvs)) : DGet H d (.str w) (valV kvs (Sum.inr w)) := .inl ⟨kvs, Sum.inr w, h, rfl, rfl⟩
theorem get0_of {R : Option V → Prop} (h : Rd H d (.dK (mp m))) (q : ∀ o : Option V, o.getD (.int 0) = .int (num m w) → R o) : ∃ o, DGet H d (.str w) o ∧ R o := ⟨_, dget_of h, q _ (by
  rw [val_mp]
  by_cases hw : w ∈ keys m
  · rw [if_pos hw]; rfl
  · rw [if_neg hw, num_none hw]; rfl)⟩
theorem e_get0 {e : Nat} {R : Option V → Prop} (S : Sep l H) (hi : l[e]? = some (At d (.dK (mp m)))) (q : ∀ o : Option V, o.getD (.int 0) = .int (num m w) → R o) : ∃ o, DGet H d (.str w) o ∧ R o := get0_of (.inl (S.at hi)) q
theorem e_get0F {e : Nat} {od : Obj} {R : Option V → Prop} (S : Sep l H) (hi : l[e]? = some (At d (.frz od (.dK (mp m))))) (q : ∀ o : Option V, o.getD (.int 0) = .int (num m w) → R o) : ∃ o, DGet H d (.str w) o ∧ R o := get0_of (.inr ⟨od, S.at hi⟩) q
theorem geti_of (h : Rd H d (.dK (mp m))) (hw : w ∈ keys m) (q : RV (.int (num m w))) : ∃ a v, V.ref d = .ref a ∧ DGet H a (.str w) (some v) ∧ RV v := ⟨d, _, rfl, by
  have e := dget_of (w := w) h
  rw [val_mp, if_pos hw] at e
  exact e, q⟩
theorem e_getI {e : Nat} (S : Sep l H) (hi : l[e]? = some (At d (.dK (mp m)))) (hw : w ∈ keys m) (q : RV (.int (num m w))) : ∃ a v, V.ref d = .ref a ∧ DGet H a (.str w) (some v) ∧ RV v := geti_of (.inl (S.at hi)) hw q
theorem e_getIF {e : Nat} {od : Obj} (S : Sep l H) (hi : l[e]? = some (At d (.frz od (.dK (mp m))))) (hw : w ∈ keys m) (q : RV (.int (num m w))) : ∃ a v, V.ref d = .ref a ∧ DGet H a (.str w) (some v) ∧ RV v := geti_of (.inr ⟨od, S.at hi⟩) hw q
theorem e_putI {e : Nat} (S : Sep l H) (hi : l[e]? = some (At d (.dK (mp m)))) (hn : (keys m).Nodup) (hz : m.length < 100000) (k : ∀ H', Sep (l.set e (At d (.dK (mp (mput m w n))))) H' → RH H') :
    ∃ a H4, V.ref d = .ref a ∧ DPut H a (.str w) (.int n) H4 ∧ RH H4 := by
  refine ⟨d, _, rfl, DPut.k (k := Sum.inr w) (S.at hi) (by rw [List.length_map]; exact Nat.lt_of_lt_of_le hz (by decide)), ?_⟩
  rw [put_mp m w n hn]
  exact k _ (S.upd hi fun _ z => nomatch z)
theorem e_in {e : Nat} (S : Sep l H) (hi : l[e]? = some (At d (.dK (mp m)))) (q : ∀ o : Option V, o.isSome = decide (w ∈ keys m) → RO o) : ∃ a o, V.ref d = .ref a ∧ DGet H a (.str w) o ∧ RO o := ⟨d, _, rfl, dget_of (.inl (S.at hi)), q _ (by
  rw [val_mp]
  by_cases hw : w ∈ keys m
  · rw [decide_eq_true hw, if_pos hw]; rfl
  · rw [decide_eq_false hw, if_neg hw]; rfl)⟩
theorem d_in (q : ty σ H fun y H1 => td σ H1 fun x H2 => ∃ a o, x = .ref a ∧ DGet H2 a y o ∧ Q (.bl o.isSome) H2) : tDIn ty td σ H Q := q
end

/-! more steps -/
theorem r_dnew {σ : St} {H : Hp} {Q : VK} (q : ∀ p, H p = none → Q (.ref p) (upd H p (.dK []))) : tDNewK σ H Q := q
theorem r_yes {σ : St} {H : Hp} {Q : Bool → Hp → Prop} (q : Q true H) : tYes σ H Q := q
theorem l_wipe {σ σ2 : St} {vs : List Nat} {P : Prop} (h : wipe σ2 vs = wipe σ vs) (q : P) : wipe σ2 vs = wipe σ vs ∧ P := ⟨h, q⟩
local macro_rules | `(tactic| walk_at "v1") => `(tactic| (first
  | with_reducible refine r_yes ?_
  | ((with_reducible refine l_wipe ?h ?_); (case h => rfl))
  | ((with_reducible refine' lc_put1 (by assumption) ?hi ?hz ?_); (case hi => walk_at "has"); (case hz => (first | decide | omega | (simp only [List.length_map, List.length_take, List.length_append]; omega))); (generalize hg : upd _ _ _ = H1); have S := upd_eqL (by assumption) (by walk_at "has") hg; clear hg; simp only [List.set] at S)
  | with_reducible refine r_forR1 ?_
  | with_reducible refine r_forR2 ?_
  | with_reducible refine r_forL ?_
  | with_reducible refine r_forT ?_
  | with_reducible refine r_forE ?_
  | with_reducible refine r_lcL ?_
  | with_reducible refine r_lcT ?_
  | with_reducible refine r_lcR1 ?_
  | with_reducible refine r_lcS ?_
  | with_reducible refine r_dnew ?_
  | with_reducible refine d_get2 ?_
  | with_reducible refine d_get ?_
  | with_reducible refine d_put ?_
  | with_reducible refine d_in ?_
  | ((with_reducible refine' g_tup (by assumption) ?hi ?hk ?_); (case hi => walk_at "has"); (case hk => rfl))
  | ((with_reducible refine' e_isd (by assumption) ?hi ?_); (case hi => walk_at "has"))
  | ((with_reducible refine' e_isdF (by assumption) ?hi ?_); (case hi => walk_at "has"))
  | ((with_reducible refine' e_get0 (by assumption) ?hi ?_); (case hi => walk_at "has"); (refine fun o ho => ?_); rw [ho]; clear ho)
  | ((with_reducible refine' e_get0F (by assumption) ?hi ?_); (case hi => walk_at "has"); (refine fun o ho => ?_); rw [ho]; clear ho)
  | ((with_reducible refine' e_getI (by assumption) ?hi (by assumption) ?_); (case hi => walk_at "has"))
  | ((with_reducible refine' e_getIF (by assumption) ?hi (by assumption) ?_); (case hi => walk_at "has"))
  | ((with_reducible refine' e_putI (by assumption) ?hi (by assumption) ?hz ?_); (case hi => walk_at "has"); (case hz => (first | decide | omega)); intro _ S; simp only [List.set] at S)
  | ((with_reducible refine' e_in (by assumption) ?hi ?_); (case hi => walk_at "has"); (refine fun o ho => ?_); rw [ho]; clear ho)))

/-! words in order; what is told of a number function -/
/-! ### the order of texts -/
def lt' (a b : Str) : Prop := PySem.Spec.ltCps a.cps.toList b.cps.toList = true
theorem ltc_irr : ∀ (a : List Nat), PySem.Spec.ltCps a a = false
  | [] => rfl
  | x :: r => by
    show (decide (x < x) || (x == x && PySem.Spec.ltCps r r)) = false
    rw [ltc_irr r]; simp
theorem ltc_tri : ∀ (a b : List Nat), PySem.Spec.ltCps a b = false → PySem.Spec.ltCps b a = false → a = b
  | [], [], _, _ => rfl
  | [], _ :: _, h, _ => by cases h
  | _ :: _, [], _, h => by cases h
  | x :: r, y :: t, h1, h2 => by
    have h1 : (decide (x < y) || (x == y && PySem.Spec.ltCps r t)) = false := h1
    have h2 : (decide (y < x) || (y == x && PySem.Spec.ltCps t r)) = false := h2
    simp only [Bool.or_eq_false_iff, decide_eq_false_iff_not, Bool.and_eq_false_iff, beq_eq_false_iff_ne] at h1 h2
    have e : x = y := by omega
    subst e
    rw [ltc_tri r t (h1.2.resolve_left (fun z => z rfl)) (h2.2.resolve_left (fun z => z rfl))]
theorem ltc_trans : ∀ (a b c : List Nat), PySem.Spec.ltCps a b = true → PySem.Spec.ltCps b c = true → PySem.Spec.ltCps a c = true
  | [], [], _, h, _ => by cases h
  | [], _ :: _, [], _, h => by cases h
  | [], _ :: _, _ :: _, _, _ => rfl
  | _ :: _, [], _, h, _ => by cases h
  | _ :: _, _ :: _, [], _, h => by cases h
  | x :: r, y :: t, z :: u, h1, h2 => by
    have h1 : (decide (x < y) || (x == y && PySem.Spec.ltCps r t)) = true := h1
    have h2 : (decide (y < z) || (y == z && PySem.Spec.ltCps t u)) = true := h2
    show (decide (x < z) || (x == z && PySem.Spec.ltCps r u)) = true
    simp only [Bool.or_eq_true, decide_eq_true_eq, Bool.and_eq_true, beq_iff_eq] at h1 h2 ⊢
    rcases h1 with h1 | ⟨e1, h1⟩
    · rcases h2 with h2 | ⟨e2, h2⟩
      · exact .inl (by omega)
      · exact .inl (by omega)
    · rcases h2 with h2 | ⟨e2, h2⟩
      · exact .inl (by omega)
      · exact .inr ⟨by omega, ltc_trans r t u h1 h2⟩
theorem str_ext {a b : Str} (h : a.cps.toList = b.cps.toList) : a = b := by
  cases a; cases b
  congr
  exact Array.ext' h
theorem lt_tri {a b : Str} (h : ¬ lt' a b) (h2 : ¬ lt' b a) : a = b :=
  str_ext (ltc_tri _ _ (Bool.eq_false_iff.2 h) (Bool.eq_false_iff.2 h2))
theorem lt_irr (a : Str) : ¬ lt' a a := by
  unfold lt'
  rw [ltc_irr]
  exact Bool.false_ne_true
theorem lt_trans' {a b c : Str} (h : lt' a b) (h2 : lt' b c) : lt' a c := ltc_trans _ _ _ h h2
/-- ascending, each once -/
def Asc (ws : List Str) : Prop := ws.Pairwise lt'
theorem asc_of_rising : ∀ (p : Str) (ws : List Str), PyProof.Rows.risingS p ws = true → (p :: ws).Nodup → Asc (p :: ws)
  | p, [], _, _ => List.pairwise_singleton _ _
  | p, x :: r, h, hn => by
    have h : (!PySem.Spec.ltCps x.cps.toList p.cps.toList && PyProof.Rows.risingS x r) = true := h
    simp only [Bool.and_eq_true, Bool.not_eq_true'] at h
    have ih := asc_of_rising x r h.2 (List.nodup_cons.1 hn).2
    have hpx : lt' p x := Classical.byContradiction fun z => by
      have e := lt_tri z (by unfold lt'; rw [h.1]; exact Bool.false_ne_true)
      exact (List.nodup_cons.1 hn).1 (by rw [e]; exact List.mem_cons_self)
    refine List.pairwise_cons.2 ⟨fun y hy => ?_, ih⟩
    rcases List.mem_cons.1 hy with rfl | hy
    · exact hpx
    · exact lt_trans' hpx ((List.pairwise_cons.1 ih).1 y hy)
theorem asc_of_sorted {ws : List Str} (h : PyProof.Rows.sortedS ws = true) (hn : ws.Nodup) : Asc ws := by
  cases ws with
  | nil => exact List.Pairwise.nil
  | cons p r => exact asc_of_rising p r h hn
theorem asc_same : ∀ {xs ys : List Str}, Asc xs → Asc ys → (∀ w, w ∈ xs ↔ w ∈ ys) → xs = ys
  | [], [], _, _, _ => rfl
  | [], y :: ys, _, _, h => by cases (h y).2 List.mem_cons_self
  | x :: xs, [], _, _, h => by cases (h x).1 List.mem_cons_self
  | x :: xs, y :: ys, hx, hy, h => by
    obtain ⟨hx1, hx2⟩ := List.pairwise_cons.1 hx
    obtain ⟨hy1, hy2⟩ := List.pairwise_cons.1 hy
    have e : x = y := by
      rcases List.mem_cons.1 ((h x).1 List.mem_cons_self) with e | m1
      · exact e
      · rcases List.mem_cons.1 ((h y).2 List.mem_cons_self) with e | m2
        · exact e.symm
        · exact (lt_irr x (lt_trans' (hx1 y m2) (hy1 x m1))).elim
    subst e
    rw [asc_same hx2 hy2 fun w => ?_]
    constructor
    · intro m
      rcases List.mem_cons.1 ((h w).1 (List.mem_cons_of_mem _ m)) with rfl | q
      · exact (lt_irr w (hx1 w m)).elim
      · exact q
    · intro m
      rcases List.mem_cons.1 ((h w).2 (List.mem_cons_of_mem _ m)) with rfl | q
      · exact (lt_irr w (hy1 w m)).elim
      · exact q
/-- L is what is told of the numbers g: the words with a number that is not 0, ascending -/
def Told (g : Str → Int) (L : List (Str × Int)) : Prop := Asc (keys L) ∧ (∀ w, w ∈ keys L ↔ g w ≠ 0) ∧ ∀ x ∈ L, x.2 = g x.1
theorem told_same {g : Str → Int} {L M : List (Str × Int)} (h : Told g L) (h2 : Told g M) : L = M := by
  have e : keys L = keys M := asc_same h.1 h2.1 fun w => by rw [h.2.1 w, h2.2.1 w]
  have r : ∀ {L : List (Str × Int)}, (∀ x ∈ L, x.2 = g x.1) → L = (keys L).map fun w => (w, g w) := fun {L} q => by
    unfold keys
    rw [List.map_map]
    conv => lhs; rw [← List.map_id L]
    apply List.map_congr_left
    intro x hx
    show x = (x.1, g x.1)
    rw [← q x hx]
  rw [r h.2.2, r h2.2.2, e]
/-- the words of a dict in order, those without a number left out -/
def toldOf (m : List (Str × Int)) (ws : List Str) : List (Str × Int) := (ws.filter fun w => decide (num m w ≠ 0)).map fun w => (w, num m w)
theorem told_of {m : List (Str × Int)} {ws : List Str} (hs : Asc ws) (hw : ∀ w, w ∈ ws ↔ w ∈ keys m) : Told (num m) (toldOf m ws) := by
  have ek : keys (toldOf m ws) = ws.filter fun w => decide (num m w ≠ 0) := by
    unfold keys toldOf
    rw [List.map_map]
    conv => rhs; rw [← List.map_id (ws.filter _)]
    exact List.map_congr_left fun _ _ => rfl
  refine ⟨?_, fun w => ?_, fun x hx => ?_⟩
  · rw [ek]
    exact List.Pairwise.filter _ hs
  · rw [ek, List.mem_filter, decide_eq_true_eq, hw]
    refine ⟨fun h => h.2, fun h => ⟨Classical.byContradiction fun z => h (num_none z), h⟩⟩
  · obtain ⟨w, _, rfl⟩ := List.mem_map.1 hx
    rfl
theorem take_snoc {α : Type} {l : List α} {i : Nat} {x : α} (h : l[i]? = some x) : l.take (i + 1) = l.take i ++ [x] := by rw [List.take_add_one, h]; rfl
/-! steps -/
section
variable {σ : St} {H : Hp} {Q : VK} {l : List Asn} {p : Addr} {ws : List Str} {K : PySem.W.Frag}
def gSorted (K : PySem.W.Frag) : List V → Hp → VK → Prop := rSortedS K
theorem call_gSorted {X : Cx} {K : PySem.W.Frag} (hK : X.K = K) : CallR X (.builtin "sorted") (gSorted K) := by rw [← hK]; exact cr_sortedS
theorem c_sorted {e : Nat} (S : Sep l H) (hi : l[e]? = some (At p (.lst (ws.map V.str)))) (hz : ws.length < 64) (k : ∀ (ys : List Str) d H', ys.Perm ws → PyProof.Rows.sortedS ys = true → Sep (At d (.lst (ys.map V.str)) :: l) H' → Q (.ref d) H') : gSorted K [.ref p] H Q :=
  ⟨p, ws, rfl, SqL.of (S.at hi), hz, fun ys d h1 h2 hd => k ys d _ h1 h2 (S.new hd)⟩
def gStrS : List V → Hp → VK → Prop := fun xs H Q => ∃ a, xs = [.str a] ∧ Q (.str a) H
theorem call_gStrS {X : Cx} : CallR X (.type "str") gStrS := SkE.call_str_str
theorem c_strS {w : Str} (q : Q (.str w) H) : gStrS [.str w] H Q := ⟨w, rfl, q⟩
end
local macro_rules | `(tactic| walk_at "v1") => `(tactic| (with_reducible refine c_strS ?_))

/-! isinstance -/
def gIsi (K : PySem.W.Frag) : List V → Hp → VK → Prop := fun xs H Q => rIsi K xs H Q ∨ rIsiT K xs H Q
theorem call_gIsi {X : Cx} {K : PySem.W.Frag} (hK : X.K = K) : CallR X (.builtin "isinstance") (gIsi K) := by rw [← hK]; exact CallR.or call_isi call_isiT
section
variable {K : PySem.W.Frag} {H : Hp} {Q : VK} {l : List Asn} {x : V} {n : Int} {s : Str} {b : Bool} {p : Addr} {xs : List V}
theorem i_one {t u : Value} {c : V} (hc : ClsV c u) (hx : TyX K H x t) (h : PySem.W.kitOne K t u = some b) (q : Q (.bl b) H) : gIsi K [x, c] H Q := .inl ⟨x, c, t, u, b, rfl, hc, hx, h, q⟩
theorem i_ty {a T : String} (hx : TyX K H x (.type a)) (h : kitB a T = some b) (q : Q (.bl b) H) : gIsi K [x, .ty T] H Q := i_one (.ty T) hx (kit_ty h) q
theorem k_ii : kitB "int" "int" = some true := by decide +kernel
theorem k_ib : kitB "int" "bool" = some false := by decide +kernel
theorem k_is : kitB "int" "str" = some false := by decide +kernel
theorem k_ss : kitB "str" "str" = some true := by decide +kernel
theorem k_si : kitB "str" "int" = some false := by decide +kernel
theorem k_sb : kitB "str" "bool" = some false := by decide +kernel
theorem k_bi : kitB "bool" "int" = some true := by decide +kernel
theorem k_bb : kitB "bool" "bool" = some true := by decide +kernel
theorem k_bs : kitB "bool" "str" = some false := by decide +kernel
theorem k_ll : kitB "list" "list" = some true := by decide +kernel
theorem k_lt : kitB "list" "tuple" = some false := by decide +kernel
theorem k_li : kitB "list" "int" = some false := by decide +kernel
theorem k_ls : kitB "list" "str" = some false := by decide +kernel
theorem k_tt : kitB "tuple" "tuple" = some true := by decide +kernel
theorem k_tl : kitB "tuple" "list" = some false := by decide +kernel
theorem k_ti : kitB "tuple" "int" = some false := by decide +kernel
theorem k_ts : kitB "tuple" "str" = some false := by decide +kernel
theorem k_ni : kitB "NoneType" "int" = some false := by decide +kernel
theorem k_ns : kitB "NoneType" "str" = some false := by decide +kernel
theorem k_nt : kitB "NoneType" "tuple" = some false := by decide +kernel
theorem k_nl : kitB "NoneType" "list" = some false := by decide +kernel
theorem k_nb : kitB "NoneType" "bool" = some false := by decide +kernel
theorem k_it : kitB "int" "tuple" = some false := by decide +kernel
theorem k_il : kitB "int" "list" = some false := by decide +kernel
theorem k_st : kitB "str" "tuple" = some false := by decide +kernel
theorem k_sl : kitB "str" "list" = some false := by decide +kernel
theorem i_int {T : String} (h : kitB "int" T = some b) (q : Q (.bl b) H) : gIsi K [.int n, .ty T] H Q := i_ty (.base (.int n)) h q
theorem i_str {T : String} (h : kitB "str" T = some b) (q : Q (.bl b) H) : gIsi K [.str s, .ty T] H Q := i_ty (.base (.str s)) h q
theorem i_bl {T : String} {c : Bool} (h : kitB "bool" T = some b) (q : Q (.bl b) H) : gIsi K [.bl c, .ty T] H Q := i_ty (.base (.bl c)) h q
theorem i_non {T : String} (h : kitB "NoneType" T = some b) (q : Q (.bl b) H) : gIsi K [.non, .ty T] H Q := i_ty (.base .non) h q
theorem i_lst {T : String} {e : Nat} (S : Sep l H) (hi : l[e]? = some (At p (.lst xs))) (h : kitB "list" T = some b) (q : Q (.bl b) H) : gIsi K [.ref p, .ty T] H Q := i_ty (.base (.lst (S.at hi))) h q
theorem i_tup {T : String} {e : Nat} (S : Sep l H) (hi : l[e]? = some (Tp p xs)) (h : kitB "tuple" T = some b) (q : Q (.bl b) H) : gIsi K [.ref p, .ty T] H Q := i_ty (.base (.tup (S.tp hi))) h q
end
local macro_rules | `(tactic| walk_at "kb") => `(tactic| (first | exact k_ii | exact k_ib | exact k_is | exact k_ss | exact k_si | exact k_sb | exact k_bi | exact k_bb | exact k_bs | exact k_ll | exact k_lt | exact k_li | exact k_ls | exact k_tt | exact k_tl | exact k_ti | exact k_ts | exact k_ni | exact k_ns | exact k_nt | exact k_nl | exact k_nb | exact k_it | exact k_il | exact k_st | exact k_sl))
local macro_rules | `(tactic| walk_at "v1") => `(tactic| (first
  | ((with_reducible refine' i_int ?hb ?_); (case hb => walk_at "kb"))
  | ((with_reducible refine' i_str ?hb ?_); (case hb => walk_at "kb"))
  | ((with_reducible refine' i_bl ?hb ?_); (case hb => walk_at "kb"))
  | ((with_reducible refine' i_non ?hb ?_); (case hb => walk_at "kb"))
  | ((with_reducible refine' i_lst (by assumption) ?hi ?hb ?_); (case hi => walk_at "has"); (case hb => walk_at "kb"))
  | ((with_reducible refine' i_tup (by assumption) ?hi ?hb ?_); (case hi => walk_at "has"); (case hb => walk_at "kb"))))

/-! enumerate over a tuple; a def read off a class -/
section
open PyProof.Rows
theorem meets_enum1 {v : Value} {o : Obj} {H : Heap → Prop} (B : Begins v o H) :
    Meets (Builtin.«enumerate.__new__» ⟨[.type "enumerate", v], []⟩) (fun _ R s => H s.heap ∧
      R (.ok (.ret (.ref (s.heap.push o).objs.size))) { s with heap := (s.heap.push o).push { cls := .type "enumerate", data := .fields #[.none, .bool false, .ref s.heap.objs.size, rawInt 0, .none, .none] } }) :=
  .of_wp fun prog w A R s h => by
    obtain ⟨hp, g, d, tk, os⟩ := s; obtain ⟨h1, h⟩ := h
    have hsub := sub_enumerate
    have q1 : ∀ {A' : Around} {E : Value → Shared → Prop} {Q : Value → Shared → Prop}, Q (.ref hp.objs.size) ⟨hp.push o, g, d, tk, os⟩ → wpAny (model prog w) A' (pyIter v) Q E ⟨hp, g, d, tk, os⟩ :=
      fun q => B.iter prog w _ _ ⟨hp, g, d, tk, os⟩ _ h1 q
    wp_walk using q1
    refine wpAny_stack_any fun st => wpAny_pure ?_
    split
    · rename_i c _ _ _ _ _
      cases (c == Value.type "enumerate")
      · wp_walk using q1
        exact ⟨_, rfl, h⟩
      · wp_walk using q1
        exact ⟨_, rfl, h⟩
    · wp_walk using q1
      exact ⟨_, rfl, h⟩
theorem enum_begins1 {prog : Program} {w : World} {A : Around} {E : Value → Shared → Prop} {s : Shared} {v : Value} {o : Obj} {H : Heap → Prop} {Q : Value → Shared → Prop} (B : Begins v o H) (h1 : H s.heap)
    (h : ∀ h', IsEnum h' (s.heap.objs.size + 1) s.heap.objs.size 0 .none → h'.get? s.heap.objs.size = some o → h'.objs.size = s.heap.objs.size + 2 →
      (∀ b o, s.heap.get? b = some o → h'.get? b = some o) → Q (.ref (s.heap.objs.size + 1)) { s with heap := h' }) :
    wpAny (model prog w) A (call (.type "enumerate") [v]) Q E s := by
  refine callType_new F.called_enumerate (by decide) (F.typeCall_enumerate_1 _) (F.newCall_enumerate_1 _) (fun obj => F.args_object_init_2 obj _) F.entry_enumerate_new
    (meets_enum1 B) ⟨h1, ?_⟩
  have hz : (s.heap.push o).objs.size = s.heap.objs.size + 1 := Heap.size_push ..
  show _ ∧ _
  rw [hz]
  have he : IsEnum ((s.heap.push o).push { cls := .type "enumerate", data := .fields #[.none, .bool false, .ref s.heap.objs.size, rawInt 0, .none, .none] }) (s.heap.objs.size + 1) s.heap.objs.size 0 .none := by
    have := Heap.get?_push_size (s.heap.push o) (o := { cls := .type "enumerate", data := .fields #[.none, .bool false, .ref s.heap.objs.size, rawInt 0, .none, .none] }) rfl
    rw [hz] at this; exact this
  refine ⟨⟨_, he, rfl⟩, h _ he (Heap.get?_push_of_some _ (Heap.get?_push_size _ B.free)) (by rw [Heap.size_push, hz]) fun b o x => Heap.get?_push_of_some _ (Heap.get?_push_of_some _ x)⟩
/-- the tuple at a, the items in new pairs with their places -/
def IteT (K : PySem.W.Frag) (a : Addr) : It :=
  ⟨fun i H => ∃ (xs : List V) (x : V), SqT K H a xs ∧ xs[i]? = some x, fun i H v H' => ∃ T x, v = .ref T ∧ H T = none ∧ H' = upd H T (.tup [.int (i : Nat), x]) ∧ ∀ xs, SqT K H a xs → xs[i]? = some x, fun i H => ∃ xs : List V, SqT K H a xs ∧ xs.length ≤ i⟩
theorem turn_enumT {P : Program} {w : World} {K : PySem.W.Frag} {elts : List Expr} {kk : Nat} {tpos : Pos} (a e it : Addr) :
    Turn P w K (.Tuple elts kk tpos) (IteT K a) [e, it] e (fun i h => (∃ old, IsEnum h e it ((i : Nat) : Int) old) ∧ h.IsTupleIter it a i ∧ e ≠ it) where
  mem := by simp
  obj := fun i h st b hb => by
    obtain ⟨⟨old, he⟩, ⟨o, ho, hc, hd⟩, _⟩ := st
    have e' : b = e ∨ b = it := by simpa using hb
    rcases e' with z | z
    · rw [z]; exact ⟨_, he, fun v q => nomatch q⟩
    · rw [z]; exact ⟨o, ho, fun v q => by rw [hd] at q; cases q⟩
  keep := fun i h h' st k => let ⟨⟨old, he⟩, hi, hne⟩ := st; ⟨⟨old, k e (by simp) _ he⟩, hi.at fun o q => k it (by simp) o q, hne⟩
  item := by
    intro X hP hw hK hc i pins s σ H E I hf st hg
    subst hP hw hK
    obtain ⟨⟨old, he⟩, hit, hne⟩ := st
    obtain ⟨xs, x, hq, hx⟩ := hg
    obtain ⟨its, rv, p, hz⟩ := I.tuple hq
    have p' : s.heap.IsTuple a its.toArray := p
    obtain ⟨u, hu, ru⟩ := rv.get hx
    have hel : e < s.heap.objs.size := Heap.lt_size he
    have hil : it < s.heap.objs.size := by obtain ⟨_, q, _⟩ := hit; exact Heap.lt_size q
    have hea : e ≠ a := fun z => by
      obtain ⟨o, ho, hc', _⟩ := id p'
      rw [← z] at ho
      have := he.symm.trans ho
      cases this
      exact absurd (Value.type.inj hc') (by decide)
    have hia : a ≠ it := fun z => by
      obtain ⟨o, ho, hc', _⟩ := id p'
      obtain ⟨o2, ho2, hc2, _⟩ := id hit
      rw [z] at ho
      have q := ho.symm.trans ho2
      cases q
      rw [hc'] at hc2
      exact absurd (Value.type.inj hc2) (by decide)
    have D := Draws.tuple (prog := X.prog) (w := X.w) (A := X.A.in1) (I.ok.hd hc) it a hia its.toArray
    have hil' : i < its.toArray.size := by
      rw [List.size_toArray]
      exact (List.getElem?_eq_some_iff.mp hu).1
    refine wpAny_pyNext_enum_itemD D he ⟨hit, p'⟩ hil' hne (by simp [hne, hea]) fun y h' tk hy ho hst' hT hsz hk => ?_
    obtain rfl : y = u := by
      have e1 : its.toArray[i]? = some u := by simpa using hu
      rw [e1] at hy
      exact (Option.some.inj hy).symm
    refine ⟨_, rfl, wpAny_letOwnedTupleGo_enum (s := { s with heap := h', toks := tk + 1 }) ho fun h'' he' sb => ?_⟩
    have hT2 : h''.get? s.heap.objs.size = some { cls := .type "tuple", data := .seq #[.int i tk, y] } := (sb.2 _ (Nat.ne_of_gt hel)).trans hT
    have new : ObjOk X.prog X.w (upd H s.heap.objs.size (.tup [.int (i : Nat), x])) h'' s.heap.objs.size (.tup [.int (i : Nat), x]) :=
      ⟨by show 2 ≤ sizeLine; decide, [.int i tk, y], .cons ⟨_, rfl⟩ (.cons ru .nil), ⟨_, hT2, rfl, _, rfl⟩⟩
    have I1 : Inv X pins σ (upd H s.heap.objs.size (.tup [.int (i : Nat), x])) { s with heap := h'', toks := tk + 1 } :=
      I.turnedNew (ch := [e, it]) (fun b ob hb q => (sb.2 b (fun z => hb (by simp [z]))).trans (hk b ob (fun z => hb (by simp [z])) (fun z => hb (by simp [z])) q)) hf (Nat.le_refl _) new
    refine ⟨.ref s.heap.objs.size, _, I1, rfl, ⟨_, x, rfl, I.hok.fresh (Nat.le_refl _), rfl, fun ys hy => by rw [I.tuple_inj hy hq]; exact hx⟩, ⟨⟨y, ?_⟩, hst'.1.at fun o q => (sb.2 it (Ne.symm hne)).trans q, hne⟩, fun b hb => ?_⟩
    · have e1 : ((i + 1 : Nat) : Int) = (i : Int) + 1 := by omega
      rw [e1]; exact he'
    · have hb' : b < s.heap.objs.size := by
        have e' : b = e ∨ b = it := by simpa using hb
        rcases e' with z | z
        · rw [z]; exact hel
        · rw [z]; exact hil
      rw [upd_ne (Nat.ne_of_lt hb')]
      exact (hf b hb).1
  done := by
    intro X hP hw hK hc i pins s σ H E I hf st hg
    subst hP hw hK
    obtain ⟨⟨old, he⟩, hit, hne⟩ := st
    obtain ⟨xs, hq, hx⟩ := hg
    obtain ⟨its, rv, p, hz⟩ := I.tuple hq
    have p' : s.heap.IsTuple a its.toArray := p
    have hl := rv.length
    have hia : a ≠ it := fun z => by
      obtain ⟨o, ho, hc', _⟩ := id p'
      obtain ⟨o2, ho2, hc2, _⟩ := id hit
      rw [z] at ho
      have q := ho.symm.trans ho2
      cases q
      rw [hc'] at hc2
      exact absurd (Value.type.inj hc2) (by decide)
    obtain ⟨f0, f1, f2, f3, f4, f5⟩ := hf it (by simp)
    have hT : s.TypeIs (.ref e) "enumerate" := ⟨_, he, rfl⟩
    unfold pyNext
    refine wpAny_bind (wpAny_attempt (wpAny_callSpecial?_slot (name := Str.ofString "__next__") hT F.slot_enumerate_next
      (wpAny_call_entry F.slot_enumerate_next hT F.entry_enumerate_next ?_ (F.args_enumerate_next_1 _))))
    show wpAny _ _ (field (.ref e) 2 >>= _) _ _ _
    refine wpAny_bind (wpAny_field he rfl (x := .ref it) rfl ?_)
    refine wpAny_bind (wpAny_nextOf_tuple_end (I.ok.hd hc) hit p' (by simp; omega) fun h' x he' hx' => ?_)
    obtain ⟨o, ho, hc2⟩ := hx'
    refine wpAny_bind (wpAny_isInstance (T := "StopIteration") (b := true) ⟨o, ho, hc2⟩ isSubtype_stop ?_)
    exact wpAny_pure ⟨rfl, I.turned (t' := s.toks) (fun b o hb q => he' b o hb q) f0 f1 f3 f4 f5⟩
  self := fun A i s Q E st h => let ⟨⟨_, he⟩, _⟩ := st; wpAny_pyIter_enum he h
def iEnumT (K : PySem.W.Frag) (ta : TA) : TI := fun σ H R => ta σ H fun vs H1 => ∃ a xs, vs = [.ref a] ∧ SqT K H1 a xs ∧ R (IteT K a) H1
theorem pi_enumT {X : Cx} {K : PySem.W.Frag} (hK : X.K = K) {e : Expr} {ta : TA} {p pos tpos : Pos} {elts : List Expr} {kk : Nat} (hg : Gl X "enumerate") (hm : X.mg "enumerate" = none) (ha : PA X [e] ta) (hs : starEach [e] X.env = [(false, eval e X.env)] := by rfl) :
    PI X (.Tuple elts kk tpos) (.Call (.Name "enumerate" p) [e] [] pos) (iEnumT K ta) := by
  subst hK
  refine ⟨fun pins s σ H R I h => ?_⟩
  refine Call_ (ld_blt I hg hm boot_enumerate (PyProof.Rows.callWith_type1 (thn (ha.run pos pins s σ H _ I h) fun us s1 ⟨vs, H1, I1, r1, q1⟩ => ?_) hs rfl))
  obtain ⟨a, xs, ex, hq, q⟩ := q1
  subst ex
  cases r1 with
  | cons r rr =>
    cases rr
    cases r
    obtain ⟨its, rv, p', hz⟩ := I1.tuple hq
    refine enum_begins1 (begins_tuple a its.toArray) p' fun h' he hit hsz hk => wpAny_pyIter_enum he ?_
    have I2 : Inv X pins σ H1 { s1 with heap := h' } := I1.kept (t' := s1.toks) hk
    refine ⟨s1.heap.objs.size + 1, [s1.heap.objs.size + 1, s1.heap.objs.size], _, _, H1, rfl, I2, turn_enumT a (s1.heap.objs.size + 1) s1.heap.objs.size, ⟨⟨.none, he⟩, ⟨_, hit, rfl, rfl⟩, Nat.succ_ne_self _⟩, fun b hb => ?_, q⟩
    have e' : b = s1.heap.objs.size + 1 ∨ b = s1.heap.objs.size := by simpa using hb
    have hle : s1.heap.objs.size ≤ b := by
      rcases e' with z | z
      · rw [z]; exact Nat.le_add_right _ _
      · rw [z]; exact Nat.le_refl _
    exact I1.fpOk hle (I1.hok.fresh hle)
/-! C.m(e, ..), m a def of C's body -/
def tUnb (C : Addr) (sp : Sp) (E : XK) (ta : TE) (t : TA) : TE := fun σ H Q => ta σ H fun x H1 => x = .ref C ∧ t σ H1 fun vs H2 => sp vs H2 Q E
theorem pe_unb {X : Cx} {CX : CXT} {k : Nat} {C f : Addr} {mc : Value} {sp : Sp} {E : XK} {o e : Expr} {es : List Expr} {m : Str} {pos apos : Pos} {ta : TE} {t : TA} {pl : Sem Bool}
    (he : PE X o ta) (r : ClX.CRead X.K C mc) (at_ : PySem.W.findCls X.K (.ref C) mc m = some (.val (.ref f))) (kp : PySem.W.keepIn X.K (.ref f) = true) (F : FnR X.prog X.w X.K X.mg X.base CX k f sp) (hr : Room k X.A) (hx : Passes CX X E) (ha : PA X (e :: es) t)
    (hst : starEach (e :: es) X.env = (false, eval e X.env) :: starEach es X.env := by rfl) (hpl : (backTo pos (starEach es X.env)).any (·.1) = false := by rfl)
    (ht : eval (.Call (.Attribute o m apos) (e :: es) [] pos) X.env = (do
      let ov ← eval o X.env
      standAt apos.atName
      let (f, first) ← holding [ov] (getMethod ov m pl)
      callWith pos f first (backTo pos (starEach (e :: es) X.env)) (backToKw pos (keywordEach [] X.env))) := by rfl) :
    PE X (.Call (.Attribute o m apos) (e :: es) [] pos) (tUnb C sp E ta t) := by
  refine ⟨fun pins s σ H Q I h => ?_⟩
  refine PySem.W.methodCall_KW (pl := pl) (thn (he.run pins s σ H _ I h) fun u s1 ⟨x, H1, I1, rx, ex, q⟩ => ?_) ht
  subst ex
  obtain rfl : u = Value.ref C := rx
  refine PySem.W.method_cls I1.kIn r.ga ?_
  refine PySem.W.cls_value I1.kIn r.rd at_ (handed_of (v := .ref f) rfl) ?_
  refine PySem.W.callWith_K (h₀ := X.base) I1.ok.mod.kin kp (thn (ha.run pos pins _ σ H1 _ (I1.tok _) q) fun us s3 ⟨vs, H2, I3, rv, q2⟩ => ⟨I3.kIn, ?_⟩) hst hpl
  exact wpAny_call (run_fnR F hr hx I3 rv q2)

end
/-! instances -/
section
open PyProof.Rows
/-- an instance of the class at C -/
def Ob (p C : Addr) (fs : List (Str × V)) : Asn := Exs fun dx : Addr => Pk [At p (.ins C dx fs), At dx (.own p)]
structure Kl (K : PySem.W.Frag) (C : Addr) (ns : List Str) : Prop where
  c : Cls K C
  n : ∀ f ∈ ns, NoAttr K C f
/-- what isinstance asks of a class -/
structure Ki (K : PySem.W.Frag) (C : Addr) : Prop where
  ha : PySem.W.findIn K (.ref C) "__class__" = some (some (.builtin "object.__class__"))
  hn : PySem.W.specialIn K (.builtin "object.__class__") "__get__" = some (some (.builtin "getset_descriptor.__get__"))
  ht : PySem.W.takesIn K (.builtin "object.__class__") = some true
  hm : PySem.W.mroIn K C (.type "object") = some true
theorem lk0 {f : Str} {v : V} {r : List (Str × V)} : List.lookup f ((f, v) :: r) = some v := by
  show (match f == f with | true => some v | false => _) = _
  rw [beq_self_eq_true]
theorem lkS {f g : Str} {v x : V} {r : List (Str × V)} (h : (f == g) = false) (q : List.lookup f r = some v) : List.lookup f ((g, x) :: r) = some v := by
  show (match f == g with | true => some x | false => List.lookup f r) = _
  rw [h]; exact q
theorem putF0 {f : Str} {v : V} : putF f v [] = [(f, v)] := rfl
theorem putFS {f g : Str} {v x : V} {r : List (Str × V)} (h : ¬ g = f) : putF f v ((g, x) :: r) = (g, x) :: putF f v r := by
  show (if g = f then _ else _) = _
  rw [if_neg h]
theorem putFT {f g : Str} {v x : V} {r r2 : List (Str × V)} (h : ¬ g = f) (q : putF f v r = r2) : putF f v ((g, x) :: r) = (g, x) :: r2 := by rw [putFS h, q]
theorem putFE {f : Str} {v x : V} {r : List (Str × V)} : putF f v ((f, x) :: r) = (f, v) :: r := by
  show (if f = f then _ else _) = _
  rw [if_pos rfl]
section
variable {l : List Asn} {H : Hp} {p C dx : Addr} {fs : List (Str × V)} {f : Str} {v y : V} {Q : VK} {K : PySem.W.Frag} {ns : List Str} {e : Nat} {σ : L2.St}
theorem ob_open (S : Sep (Ob p C fs :: l) H) : ∃ dx, Sep (At p (.ins C dx fs) :: At dx (.own p) :: l) H := by
  obtain ⟨dx, S⟩ := S.ex
  exact ⟨dx, S.open'⟩
theorem ob_close (S : Sep (At p (.ins C dx fs) :: At dx (.own p) :: l) H) : Sep (Ob p C fs :: l) H := Sep.ex' (x := dx) (Sep.close' (l := [_, _]) S)
theorem ob_at (S : Sep l H) (hi : l[e]? = some (Ob p C fs)) : ∃ dx, H p = some (.ins C dx fs) := by
  obtain ⟨dx, S'⟩ := ob_open (S.pick hi)
  exact ⟨dx, S'.at (i := 0) rfl⟩
/-- an attribute is read -/
def gFldR (K : PySem.W.Frag) (f : Str) (x : V) (H : Hp) (Q : VK) : Prop := ∃ a C dx fs v, x = .ref a ∧ H a = some (.ins C dx fs) ∧ Cls K C ∧ NoAttr K C f ∧ fs.lookup f = some v ∧ Q v H
/-- an attribute is stored -/
def gFldW (K : PySem.W.Frag) (f : Str) (x y : V) (H : Hp) (R : Hp → Prop) : Prop := ∃ a C dx fs, x = .ref a ∧ H a = some (.ins C dx fs) ∧ Cls K C ∧ NoAttr K C f ∧ fs.length < 1000 ∧ R (upd H a (.ins C dx (putF f y fs)))
theorem f_get (S : Sep l H) (hi : l[e]? = some (Ob p C fs)) (hC : Kl K C ns) (hf : f ∈ ns) (hl : fs.lookup f = some v) (q : Q v H) :
    gFldR K f (.ref p) H Q := by
  obtain ⟨dx, h⟩ := ob_at S hi
  exact ⟨p, C, dx, fs, v, rfl, h, hC.c, hC.n f hf, hl, q⟩
theorem f_put {R : Hp → Prop} (S : Sep l H) (hi : l[e]? = some (Ob p C fs)) (hC : Kl K C ns) (hf : f ∈ ns) (hz : fs.length < 1000) {fs2 : List (Str × V)} (he : putF f y fs = fs2) (k : ∀ H', Sep (l.set e (Ob p C fs2)) H' → R H') :
    gFldW K f (.ref p) y H R := by
  obtain ⟨dx, S1⟩ := ob_open (S.pick hi)
  have h := S1.at (i := 0) rfl
  have S2 := S1.upd0 (o' := .ins C dx fs2) (fun _ z => nomatch z)
  rw [he.symm] at S2 k
  exact ⟨p, C, dx, fs, rfl, h, hC.c, hC.n f hf, hz, k _ (Sep.back hi (ob_close S2))⟩
theorem n_make {P : Addr → Hp → Prop} (S : Sep l H) (k : ∀ x H', Sep (Ob x C [] :: l) H' → P x H') : ∀ x dx, H x = none → H dx = none → dx ≠ x → P x (upd (upd H dx (.own x)) x (.ins C dx [])) := by
  intro x dx hx hdx hne
  refine k x _ (ob_close (dx := dx) ?_)
  have S1 := S.new (o := .own x) hdx
  have hx' : (upd H dx (.own x)) x = none := by rw [upd_ne (Ne.symm hne)]; exact hx
  exact S1.new hx'
theorem r_fldS {ta tv : TE} {nx bk ct : L2.St → Hp → Prop} {rt : VK} (q : tv σ H fun y H1 => ta σ H1 fun x H2 => gFldW K f x y H2 fun H3 => nx σ H3) :
    sFld K ta tv f ⟨nx, rt, bk, ct⟩ σ H := q
theorem r_fld {ta : TE} (q : ta σ H fun x H1 => gFldR K f x H1 Q) : tFld K ta f σ H Q := q
theorem ps_gFld {X : Cx} (hK : X.K = K) {o value : Expr} {pos' pos : Pos} {ta tv : TE} (ha : PE X o ta) (hv : PE X value tv) (hs : swapsWith value (some (.Attribute o f pos')) pos.line X.env = pure false) : PS X (.Assign [.Attribute o f pos'] value pos) (sFld K ta tv f) := by
  rw [← hK]; exact ps_fld ha hv hs
theorem r_make {sp : Sp} {E : XK} {t : TA} (q : t σ H fun vs H1 => ∀ x dx, H1 x = Option.none → H1 dx = Option.none → dx ≠ x → sp (V.ref x :: vs) (upd (upd H1 dx (.own x)) x (.ins C dx [])) (fun v H2 => v = .non ∧ Q (.ref x) H2) E) : StX.tMakeR C sp E t σ H Q := q
theorem r_unb {sp : Sp} {E : XK} {ta : TE} {t : TA} (q : ta σ H fun x H1 => x = .ref C ∧ t σ H1 fun vs H2 => sp vs H2 Q E) : tUnb C sp E ta t σ H Q := q
/-- isinstance(x, C), x an instance -/
theorem i_ob {D : Addr} {b : Bool} (S : Sep l H) (hi : l[e]? = some (Ob p C fs)) (hC : Kl K C ns) (ki : Ki K C) (hk : PySem.W.kitOne K (.ref C) (.ref D) = some b) (q : Q (.bl b) H) : gIsi K [.ref p, .ref D] H Q := by
  obtain ⟨dx, h⟩ := ob_at S hi
  exact i_one (.own D) (.base (.ins h hC.c ki.ha ki.hn ki.ht ki.hm)) hk q
theorem i_obT {T : String} {b : Bool} (S : Sep l H) (hi : l[e]? = some (Ob p C fs)) (hC : Kl K C ns) (ki : Ki K C) (hk : PySem.W.kitOne K (.ref C) (.type T) = some b) (q : Q (.bl b) H) : gIsi K [.ref p, .ty T] H Q := by
  obtain ⟨dx, h⟩ := ob_at S hi
  exact i_one (.ty T) (.base (.ins h hC.c ki.ha ki.hn ki.ht ki.hm)) hk q
end
end
local macro_rules | `(tactic| walk_at "lk") => `(tactic| (first | exact lk0 | exact lkS (by decide +kernel) lk0 | exact lkS (by decide +kernel) (lkS (by decide +kernel) lk0) | exact lkS (by decide +kernel) (lkS (by decide +kernel) (lkS (by decide +kernel) lk0)) | exact lkS (by decide +kernel) (lkS (by decide +kernel) (lkS (by decide +kernel) (lkS (by decide +kernel) lk0)))))
local macro_rules | `(tactic| walk_at "putF") => `(tactic| (first | exact putF0 | exact putFE | exact putFT (by decide +kernel) putF0 | exact putFT (by decide +kernel) putFE | exact putFT (by decide +kernel) (putFT (by decide +kernel) putF0) | exact putFT (by decide +kernel) (putFT (by decide +kernel) putFE) | exact putFT (by decide +kernel) (putFT (by decide +kernel) (putFT (by decide +kernel) putF0))))
local macro_rules | `(tactic| walk_at "v1") => `(tactic| (first
  | with_reducible refine r_fld ?_
  | with_reducible refine r_fldS ?_
  | with_reducible refine r_make ?_
  | with_reducible refine r_unb ?_
  | ((with_reducible refine' f_get (by assumption) ?hi ?hC ?hf ?hl ?_); (case hi => walk_at "has"); (case hC => assumption); (case hf => decide +kernel); (case hl => walk_at "lk"))
  | ((with_reducible refine' f_put (by assumption) ?hi ?hC ?hf ?hz ?he ?_); (case hi => walk_at "has"); (case hC => assumption); (case hf => decide +kernel); (case hz => (simp only [List.length_cons, List.length_nil]; decide)); (case he => walk_at "putF"); intro _ S; simp only [List.set] at S)))

/-! kinds -/
def abcS : Str := "abcdefghijklmnopqrstuvwxyz"
def sg (j : Nat) : Str := ⟨#[97 + j]⟩
def barredL : List Str := ["hold", "look", "do", "row", "one", "all", "new", "give", "take", "join", "other", "if", "and", "or", "then", "gone"]
def wordsL : List Str := ["self", "at", "to", "exactly", "least", "most", "from", "rule", "door", "limit", "begin", "store", "loose"]
theorem wordsL_wd : ∀ w ∈ wordsL, Wd w := by decide +kernel
def Kd (w : Str) : Prop := Wd w ∧ w ∉ barredL
instance (w : Str) : Decidable (Kd w) := by unfold Kd; infer_instance
theorem abc_at : ∀ j, j < 26 → abc[j]? = some (97 + j) := by decide +kernel
theorem abc_mem {c : Nat} : c ∈ abc ↔ 97 ≤ c ∧ c < 123 := by
  constructor
  · intro h
    have : ∀ c ∈ abc, 97 ≤ c ∧ c < 123 := by decide +kernel
    exact this c h
  · intro h
    have e := abc_at (c - 97) (by omega)
    have e2 : 97 + (c - 97) = c := by omega
    rw [e2] at e
    exact List.mem_of_getElem? e
theorem abc_index : ∀ j, j < 26 → Builtin.Str.occurrences abcS (sg j) 0 26 1 = [j] := by decide +kernel
theorem abcS_at {n : Int} {m : Nat} (e : n = (m : Int)) (hm : m < 26) : atI abcS.cps.toList n = some (97 + m) := by
  subst e
  have hl : abcS.cps.toList.length = 26 := by decide +kernel
  unfold atI ixN
  rw [if_pos (by omega), if_pos (by omega)]
  exact abc_at m hm
theorem str_inj {a b : Str} (h : a.cps.toList = b.cps.toList) : a = b := by
  cases a; cases b
  congr 1
  exact Array.toList_inj.1 h
/-- a word by its last sign -/
theorem word_split {w : Str} (h : Wd w) : ∃ (p : Str) (j : Nat), w = p ++ sg j ∧ j < 26 ∧ p.length ≤ 7 ∧ ∀ c ∈ p.cps.toList, c ∈ abc := by
  obtain ⟨h1, h2, h3⟩ := h
  have hl : w.cps.toList.length = w.length := by simp [Str.length]
  have hne : w.cps.toList ≠ [] := fun z => by rw [z] at hl; simp at hl; omega
  obtain ⟨j0, hj⟩ : ∃ c, c = w.cps.toList.getLast hne := ⟨_, rfl⟩
  have hm : j0 ∈ abc := by rw [hj]; exact h3 _ (List.getLast_mem hne)
  have hb := abc_mem.1 hm
  refine ⟨⟨w.cps.toList.dropLast.toArray⟩, j0 - 97, str_inj ?_, by omega, ?_, fun c hc => ?_⟩
  · rw [str_app]
    show w.cps.toList = w.cps.toList.dropLast.toArray.toList ++ [97 + (j0 - 97)]
    have e : 97 + (j0 - 97) = j0 := by omega
    rw [e, hj]
    exact (List.dropLast_concat_getLast hne).symm
  · show w.cps.toList.dropLast.toArray.size ≤ 7
    simp only [List.size_toArray, List.length_dropLast]
    omega
  · have hc' : c ∈ w.cps.toList.dropLast := by simpa using hc
    exact h3 c (List.dropLast_subset _ hc')
theorem word_join {p : Str} {j : Nat} (hj : j < 26) (hp : p.length ≤ 7) (hc : ∀ c ∈ p.cps.toList, c ∈ abc) : Wd (p ++ sg j) := by
  refine ⟨?_, ?_, fun c h => ?_⟩
  · rw [str_len_app]; show 1 ≤ p.length + 1; omega
  · rw [str_len_app]; show p.length + 1 ≤ 8; omega
  · rw [str_app] at h
    rcases List.mem_append.1 h with h | h
    · exact hc c h
    · have e : c = 97 + j := List.mem_singleton.1 h
      rw [abc_mem]; omega
theorem last_at {p : Str} {j : Nat} : atI (p ++ sg j).cps.toList (-1) = some (97 + j) := by
  rw [str_app]
  show atI (p.cps.toList ++ [97 + j]) (-1) = _
  unfold atI ixN
  rw [if_neg (by decide), if_pos (by simp; omega)]
  simp only [Option.bind_some, List.length_append, List.length_singleton]
  have e : ((-1 : Int) + ((p.cps.toList.length + 1 : Nat) : Int)).toNat = p.cps.toList.length := by omega
  rw [e, List.getElem?_append_right (Nat.le_refl _)]
  simp
theorem sIx_m1 (n : Nat) : HT.sIx (n + 1) (n + 1) (some (-1)) = n := by
  unfold HT.sIx
  simp
  omega
theorem cut_last {p : Str} {j : Nat} : cutS (p ++ sg j) none (some (-1)) = p := by
  apply str_inj
  unfold cutS
  have hl : (p ++ sg j).length = p.cps.toList.length + 1 := by rw [str_len_app]; simp [Str.length]; rfl
  rw [hl, sIx_m1, HT.sIx_none, str_app]
  simp
theorem pre_inj {p : Str} {a b : Nat} (h : p ++ sg a = p ++ sg b) : a = b := by
  have e := congrArg (fun x : Str => x.cps.toList) h
  simp only [str_app] at e
  have e2 := List.append_cancel_left e
  have e3 : 97 + a = 97 + b := by
    have := List.cons.inj e2
    exact this.1
  omega
theorem nodup_le {α : Type} [DecidableEq α] : ∀ {l m : List α}, l.Nodup → (∀ x ∈ l, x ∈ m) → l.length ≤ m.length
  | [], m, _, _ => Nat.zero_le _
  | x :: l, m, hn, hs => by
    have hx := hs x List.mem_cons_self
    have hn' := List.nodup_cons.1 hn
    have ih := nodup_le (l := l) (m := m.erase x) hn'.2 fun y hy => by
      have hne : y ≠ x := fun z => hn'.1 (z ▸ hy)
      exact (List.mem_erase_of_ne hne).2 (hs y (List.mem_cons_of_mem _ hy))
    rw [List.length_erase_of_mem hx] at ih
    have : 0 < m.length := List.length_pos_of_mem hx
    show l.length + 1 ≤ m.length
    omega
/-- among 26 last signs one is free -/
theorem free_one {p : Str} {j0 : Nat} {m : List Str} (hm : m.length ≤ 25) (h : ∀ k, k < 26 → p ++ sg ((j0 + k) % 26) ∈ m) : False := by
  have hn : ((List.range 26).map fun k => p ++ sg ((j0 + k) % 26)).Nodup := by
    show List.Pairwise _ _
    rw [List.pairwise_map]
    refine List.Pairwise.imp_of_mem (R := fun a b => a ≠ b) (fun {a b} ha hb hab z => ?_) (List.nodup_range (n := 26))
    have e := pre_inj z
    have ha' := List.mem_range.1 ha
    have hb' := List.mem_range.1 hb
    omega
  have := nodup_le hn (m := m) fun x hx => by
    obtain ⟨k, hk, rfl⟩ := List.mem_map.1 hx
    exact h k (List.mem_range.1 hk)
  simp at this
  omega
theorem Sep.fr1' {A B : Asn} {l : List Asn} {H : Hp} {j : Nat} (e : l[j]? = some B) (S : Sep (A :: l) H) : Sep (A :: B :: l.eraseIdx j) H := (S.pick (i := j + 1) e).bk1
theorem Sep.bk1' {A B : Asn} {l : List Asn} {H : Hp} {j : Nat} (e : l[j]? = some B) (S : Sep (A :: B :: l.eraseIdx j) H) : Sep (A :: l) H := Sep.backS (l := A :: l) (i := j + 1) e S.fr1
section
variable {l : List Asn} {H : Hp} {p : Addr} {K : PySem.W.Frag} {Q : VK} {e : Nat} {xs : List V} {ws : List Str} {w : Str}
theorem flat_strs : ∀ ws : List Str, (ws.map V.str).all flatV = true
  | [] => rfl
  | _ :: ws => flat_strs ws
theorem eqV_str {a b : Str} : eqV (.str a) (.str b) = decide (a = b) := by
  show (a == b) = _
  by_cases h : a = b
  · rw [decide_eq_true h, h]; exact beq_self_eq_true b
  · rw [decide_eq_false h]; exact beq_eq_false_iff_ne.2 h
theorem inV_strs {w : Str} : ∀ ws : List Str, inV (.str w) (ws.map V.str) = decide (w ∈ ws)
  | [] => rfl
  | a :: ws => by
    show (eqV (.str a) (.str w) || inV (.str w) (ws.map V.str)) = _
    rw [inV_strs ws, eqV_str]
    by_cases h : a = w
    · simp [h]
    · have h' : ¬ w = a := fun z => h z.symm
      simp [h, h']
theorem in_strs (S : Sep l H) (hi : l[e]? = some (At p (.lst (ws.map V.str)))) (q : Q (.bl (decide (w ∈ ws))) H) : gIn K false (.str w) (.ref p) H Q :=
  .inl ⟨p, _, rfl, .inl (SqL.of (S.at hi)), rfl, flat_strs ws, by
    show Q (.bl (inV (.str w) (ws.map V.str))) H
    rw [inV_strs]; exact q⟩
theorem nin_strs (S : Sep l H) (hi : l[e]? = some (At p (.lst (ws.map V.str)))) (q : Q (.bl (!decide (w ∈ ws))) H) : gIn K true (.str w) (.ref p) H Q :=
  .inl ⟨p, _, rfl, .inl (SqL.of (S.at hi)), rfl, flat_strs ws, by
    show Q (.bl (!inV (.str w) (ws.map V.str))) H
    rw [inV_strs]; exact q⟩
theorem in_tups (h : SqT K H p (ws.map V.str)) (q : Q (.bl (decide (w ∈ ws))) H) : gIn K false (.str w) (.ref p) H Q :=
  .inl ⟨p, _, rfl, .inr h, rfl, flat_strs ws, by
    show Q (.bl (inV (.str w) (ws.map V.str))) H
    rw [inV_strs]; exact q⟩
theorem nin_tups (h : SqT K H p (ws.map V.str)) (q : Q (.bl (!decide (w ∈ ws))) H) : gIn K true (.str w) (.ref p) H Q :=
  .inl ⟨p, _, rfl, .inr h, rfl, flat_strs ws, by
    show Q (.bl (!inV (.str w) (ws.map V.str))) H
    rw [inV_strs]; exact q⟩
theorem m_tyS {R : Prop} (q : R) : tyV K "str" (.str w) H ∧ R := ⟨rfl, q⟩
def gSIndex : V → List V → Hp → VK → Prop := fun x xs H Q => ∃ a b i rest, x = .str a ∧ xs = [.str b] ∧ Builtin.Str.occurrences a b 0 a.length 1 = i :: rest ∧ Q (.int (i : Nat)) H
theorem mt_gSIndex {X : Cx} : MtR X "str.index" gSIndex := mt_sindex
theorem m_sindex {j : Nat} (hj : j < 26) (q : Q (.int (j : Nat)) H) : gSIndex (.str abcS) [.str (sg j)] H Q := ⟨abcS, sg j, j, [], rfl, rfl, abc_index j hj, q⟩
end

/-! constants, stars, tuples, all and any -/
section
open PyProof.Rows
theorem pe_globE {X : Cx} {x : Str} {v : V} {pos : Pos} (hg : Gl X x) (h : ∃ u, X.mg x = some u ∧ RelV v u) (hd : (x == ("__debug__" : Str)) = false := by decide) : PE X (.Name x pos) (tC v) :=
  h.elim fun _ h => pe_glob hg h.1 h.2 hd
/-- the promise of a def whose last parameter takes what is left over -/
def stSp (n : Nat) (sp : Sp) : Sp := fun vs H Q E => ∃ ws rest, vs = ws ++ rest ∧ ws.length = n ∧ rest.length ≤ sizeLine ∧ ∀ p, H p = Option.none → sp (ws ++ [V.ref p]) (upd H p (.tup rest)) Q E
theorem fun_star {P : Program} {w : World} {K : PySem.W.Frag} {mg : Str → Option Value} {base : Heap} {x qual : Str} {st : Stmt} {f : Addr} {fd : FuncData} {N ps : List Str} {pv : Str} {k : Nat} {sp : Sp} (F : Fun K x qual st f fd) (S : FnScope N (ps ++ [pv]) (defScope st))
    (hb : ∀ (kV doc pm : Value) (an : Option Addr) (cdv ct : Value) (us rest : List Value), us.length = ps.length → bindArgs (PySem.W.fnOf x qual (defArgs st) (defBody st) (defScope st) .none kV doc pm an cdv ct) ⟨us ++ rest, []⟩ = (newTuple rest >>= fun t => pure (ps.zip us ++ [(pv, t)])))
    (hbody : ∀ (cdv : Value) (A : Around) (outer : List Env) (s : Shared) (H : Hp) (vs : List V) (Q : VK) (E : XK), Room k (A.deeper (envOfC qual (defScope st) s.heap.objs.size f cdv)) → sp vs H Q E →
      ∃ t, PSs (cxOf CX0 P w K mg base N qual (defScope st) f cdv A outer s H E).nox (defBody st) t ∧ t { nx := fun _ H' => Q .non H', rt := Q } (start N vs) H) : FnR P w K mg base CX0 (k + 1) f (stSp ps.length sp) := by
  obtain ⟨oc, od, kV, doc, pm, an, cdv, ct, osl, rfl, lk, hcd⟩ := F.ex
  refine StX.fn_star lk hcd S StX.cxUp_none (hb kV doc pm an cdv ct) fun A outer s H vs Q E hr hsp => ?_
  obtain ⟨t, h, q⟩ := hbody cdv A outer s H vs Q E hr hsp
  exact ⟨t, h.nox, q⟩
theorem raw0 {P : Program} {w : World} {K : PySem.W.Frag} {mg : Str → Option Value} {base : Heap} {CX : CXT} {k : Nat} {f : Addr} {fd : FuncData} {ps : List Str} {sp : Sp} (F : FnOk P w K mg base CX k f fd ps sp) (hb : Binds K fd ps []) : FnR P w K mg base CX k f sp :=
  (F.raw hb .nil).imp fun vs H Q E h => by rw [List.append_nil]; exact h
theorem StX.bind_star3 {B : List Value → Sem (List (Str × Value))} {p1 p2 p3 pv : Str} (h0 : ∀ a b c, B [a, b, c] = (newTuple [] >>= fun t => pure [(p1, a), (p2, b), (p3, c), (pv, t)])) (h1 : ∀ a b c r rs, B (a :: b :: c :: r :: rs) = (newTuple (r :: rs) >>= fun t => pure [(p1, a), (p2, b), (p3, c), (pv, t)])) :
    ∀ us rest : List Value, us.length = [p1, p2, p3].length → B (us ++ rest) = (newTuple rest >>= fun t => pure ([p1, p2, p3].zip us ++ [(pv, t)]))
  | [a, b, c], [], _ => h0 a b c
  | [a, b, c], r :: rs, _ => h1 a b c r rs
section
variable {l : List Asn} {H : Hp} {p : Addr} {K : PySem.W.Frag} {Q : VK} {e : Nat} {xs : List V} {E : XK} {σ : L2.St} {g : TG} {tb : TS} {nx bk ct : L2.St → Hp → Prop} {rt : VK} {te : TE} {tA : TA}
/-- a call with something left over -/
theorem st_call {ws rest : List V} {sp : Sp} (S : Sep l H) (hz : rest.length ≤ 1000) (k : ∀ t H', Sep (Tp t rest :: l) H' → sp (ws ++ [V.ref t]) H' Q E) : stSp ws.length sp (ws ++ rest) H Q E :=
  ⟨ws, rest, rfl, rfl, Nat.le_trans hz (by decide), fun t ht => k t _ (S.newT ht)⟩
theorem sl_gTup {X : Cx} (hK : X.K = K) : SlR X (rSlT K) := by rw [← hK]; exact sl_tup
theorem s_tup {lo hi : Option Int} (S : Sep l H) (he : l[e]? = some (Tp p xs)) (hw : ¬ (HT.sIx xs.length 0 lo = 0 ∧ HT.sIx xs.length xs.length hi = xs.length)) (k : ∀ d H', Sep (Tp d (cutV xs lo hi) :: l) H' → Q (.ref d) H') : rSlT K (.ref p) lo hi H Q :=
  ⟨p, xs, rfl, SqT.of (S.tp he), hw, fun d hd => k d _ (S.newT hd)⟩
def gTuple (K : PySem.W.Frag) : List V → Hp → VK → Prop := fun xs H Q => ∃ p ys, xs = [.ref p] ∧ ((SqL K H p ys ∧ ∀ l, H l = none → Q (.ref l) (upd H l (.tup ys))) ∨ (SqT K H p ys ∧ Q (.ref p) H))
theorem call_gTuple {X : Cx} (hK : X.K = K) : CallR X (.type "tuple") (gTuple K) := by rw [← hK]; exact call_tuple_of
theorem c_tupT (S : Sep l H) (hi : l[e]? = some (Tp p xs)) (q : Q (.ref p) H) : gTuple K [.ref p] H Q := ⟨p, xs, rfl, .inr ⟨SqT.of (S.tp hi), q⟩⟩
theorem c_tupL (S : Sep l H) (hi : l[e]? = some (At p (.lst xs))) (k : ∀ d H', Sep (Tp d xs :: l) H' → Q (.ref d) H') : gTuple K [.ref p] H Q := ⟨p, xs, rfl, .inl ⟨SqL.of (S.at hi), fun d hd => k d _ (S.newT hd)⟩⟩
def gAll (K : PySem.W.Frag) : List V → Hp → VK → Prop := rAll K
def gAny (K : PySem.W.Frag) : List V → Hp → VK → Prop := rAny K
theorem call_gAll {X : Cx} (hK : X.K = K) (hc : X.calm = true) : CallR X (.builtin "all") (gAll K) := by rw [← hK]; exact cr_all hc
theorem call_gAny {X : Cx} (hK : X.K = K) (hc : X.calm = true) : CallR X (.builtin "any") (gAny K) := by rw [← hK]; exact cr_any hc
theorem c_all {bs : List Bool} (S : Sep l H) (hi : l[e]? = some (At p (.lst (bs.map V.bl)))) (q : Q (.bl (bs.all id)) H) : gAll K [.ref p] H Q := ⟨p, bs, rfl, SqL.of (S.at hi), q⟩
theorem c_any {bs : List Bool} (S : Sep l H) (hi : l[e]? = some (At p (.lst (bs.map V.bl)))) (q : Q (.bl (bs.any id)) H) : gAny K [.ref p] H Q := ⟨p, bs, rfl, SqL.of (S.at hi), q⟩
theorem in_sign {c : Nat} {z : Str} (q : Q (.bl (decide (c ∈ z.cps.toList))) H) : gIn K false (.str ⟨#[c]⟩) (.str z) H Q := .inr ⟨c, z, rfl, rfl, q⟩
/-- for x in t, t a tuple -/
theorem forT (S : Sep l H) (hi : l[e]? = some (Tp p xs)) (Pv : Nat → L2.St → Hp → Prop) (h0 : Pv 0 σ H) (hl : ∀ i σ H, Pv i σ H → H p = some (.tup xs))
    (hs : ∀ i x σ H, xs[i]? = some x → Pv i σ H → g x σ H fun σ2 H2 => tb ⟨Pv (i + 1), rt, nx, Pv (i + 1)⟩ σ2 H2) (hd : ∀ σ H, Pv xs.length σ H → nx σ H) :
    ∃ a, V.ref p = .ref a ∧ (∃ xs, SqT K H a xs) ∧ ForB (Itt K a) g tb ⟨nx, rt, bk, ct⟩ σ H :=
  ⟨p, rfl, ⟨xs, SqT.of (S.tp hi)⟩, for_tup (K := K) (D := ⟨nx, rt, bk, ct⟩) Pv h0 (fun i σ H _ q => SqT.of (hl i σ H q)) hs hd⟩
theorem r_forET (q : tA σ H fun vs H1 => ∃ a xs, vs = [.ref a] ∧ SqT K H1 a xs ∧ ForB (IteT K a) g tb ⟨nx, rt, bk, ct⟩ σ H1) : tFor (iEnumT K tA) g tb ⟨nx, rt, bk, ct⟩ σ H := q
/-- for i, x in enumerate(t), t a tuple -/
theorem forET (S : Sep l H) (hi : l[e]? = some (Tp p xs)) (Pv : Nat → L2.St → Hp → Prop) (h0 : Pv 0 σ H) (hl : ∀ i σ H, Pv i σ H → H p = some (.tup xs))
    (hs : ∀ i x T σ H H', xs[i]? = some x → Pv i σ H → H T = none → H' = upd H T (.tup [.int (i : Nat), x]) → g (.ref T) σ H' fun σ2 H2 => tb ⟨Pv (i + 1), rt, nx, Pv (i + 1)⟩ σ2 H2) (hd : ∀ σ H, Pv xs.length σ H → nx σ H) :
    ∃ a ys, [V.ref p] = [.ref a] ∧ SqT K H a ys ∧ ForB (IteT K a) g tb ⟨nx, rt, bk, ct⟩ σ H := by
  refine ⟨p, xs, rfl, SqT.of (S.tp hi), fun i m σ H => m = xs.length - i ∧ i ≤ xs.length ∧ Pv i σ H, ⟨xs.length, by simp, Nat.zero_le _, h0⟩, ?_⟩
  rintro i m σ H ⟨rfl, hi, q⟩
  have hq : SqT K H p xs := SqT.of (hl i σ H q)
  by_cases hlt : i < xs.length
  · refine .inr ⟨⟨xs, xs[i], hq, by simp [hlt]⟩, Pv (i + 1), fun σ' H' p' => ⟨xs.length - (i + 1), by omega, rfl, hlt, p'⟩, fun x H' y => ?_⟩
    obtain ⟨T, z, rfl, hn, rfl, f⟩ := y
    exact hs i z T σ H _ (f xs hq) q hn rfl
  · have e : i = xs.length := by omega
    subst e
    exact .inl ⟨⟨xs, hq, Nat.le_refl _⟩, hd σ H q⟩
end
end
local macro_rules | `(tactic| walk_at "v1") => `(tactic| (first
  | with_reducible refine r_forET ?_
  | with_reducible refine in_sign ?_
  | ((with_reducible refine' c_tupT (by assumption) ?hi ?_); (case hi => walk_at "has"))
  | ((with_reducible refine' c_tupL (by assumption) ?hi ?_); (case hi => walk_at "has"); intro _ _ _)
  | ((with_reducible refine' in_strs (by assumption) ?hi ?_); (case hi => walk_at "has"))
  | ((with_reducible refine' nin_strs (by assumption) ?hi ?_); (case hi => walk_at "has"))
  | ((with_reducible refine' c_all (by assumption) ?hi ?_); (case hi => walk_at "has"))
  | ((with_reducible refine' c_any (by assumption) ?hi ?_); (case hi => walk_at "has"))))

/-! rules -/
/-- the numbers of a rule -/
def Ends (ns : List Int) : Prop := (∀ n ∈ ns, 0 ≤ n ∧ n ≤ 9) ∧ ((∃ a, ns = [a]) ∨ ∃ a b, ns = [a, b] ∧ a ≤ b)
def Kds (ks : List Str) : Prop := 1 ≤ ks.length ∧ ks.length ≤ 3 ∧ ks.Nodup ∧ ∀ w ∈ ks, Kd w
theorem cut_pre {xs : List V} {i : Nat} (h : i ≤ xs.length) : cutV xs none (some (i : Int)) = xs.take i := by
  unfold cutV
  rw [HT.sIx_none, HT.sIx_nat, Nat.min_eq_left h, Nat.sub_zero]
  rfl
theorem Kd.len {w : Str} (h : Kd w) : w.length ≤ 8 := h.1.2.1
/-- a rule at p -/
def Ru (p C : Addr) (a b : V) (ks : List V) : Asn := Exs fun t : Addr => Pk [Ob p C [("least", a), ("most", b), ("kinds", .ref t)], Tp t ks]
theorem ru_open {p C : Addr} {a b : V} {ks : List V} {l : List Asn} {H : Hp} (S : Sep (Ru p C a b ks :: l) H) : ∃ t, Sep (Ob p C [("least", a), ("most", b), ("kinds", .ref t)] :: Tp t ks :: l) H := by
  obtain ⟨t, S⟩ := S.ex
  exact ⟨t, S.open'⟩
theorem ru_close {p C t : Addr} {a b : V} {ks : List V} {l : List Asn} {H : Hp} (S : Sep (Ob p C [("least", a), ("most", b), ("kinds", .ref t)] :: Tp t ks :: l) H) : Sep (Ru p C a b ks :: l) H := Sep.ex' (x := t) (Sep.close' (l := [_, _]) S)
abbrev rNs : List Str := ["least", "most", "kinds"]

/-! equality of data -/
def dStrs (ws : List Str) : List PyData := ws.map PyData.str
theorem shaped_all {ds : List PyData} (h : ∀ d ∈ ds, d.canLay0 = true ∧ d.depth = 0) : PyData.canLayAll0 ds = true ∧ PyData.depthAll ds = 0 := by
  induction ds with
  | nil => exact ⟨rfl, rfl⟩
  | cons d ds ih =>
    obtain ⟨h1, h2⟩ := h d List.mem_cons_self
    obtain ⟨i1, i2⟩ := ih fun x hx => h x (List.mem_cons_of_mem _ hx)
    refine ⟨by rw [PyData.canLayAll0, h1, i1]; rfl, ?_⟩
    rw [PyData.depthAll, h2, i2]; rfl
theorem shaped_tup {ds : List PyData} (h : ∀ d ∈ ds, d.canLay0 = true ∧ d.depth = 0) : SeqAt.shaped (.tuple ds) = true := by
  obtain ⟨h1, h2⟩ := shaped_all h
  unfold SeqAt.shaped
  rw [PyData.canLay0, h1, PyData.depth, h2]; rfl
theorem shaped_lst {ds : List PyData} (h : ∀ d ∈ ds, d.canLay0 = true ∧ d.depth = 0) : SeqAt.shaped (.list ds) = true := by
  obtain ⟨h1, h2⟩ := shaped_all h
  unfold SeqAt.shaped
  rw [PyData.canLay0, h1, PyData.depth, h2]; rfl
theorem strOk_word {w : Str} (h : Wd w) : PyData.strOk w = true := by
  unfold PyData.strOk
  rw [← Array.all_toList, List.all_eq_true]
  intro c hc
  have := abc_mem.1 (h.2.2 c hc)
  exact decide_eq_true (by omega)
theorem flat_dstrs {ws : List Str} (h : ∀ w ∈ ws, Wd w) : ∀ d ∈ dStrs ws, d.canLay0 = true ∧ d.depth = 0 := by
  intro d hd
  obtain ⟨w, hw, rfl⟩ := List.mem_map.1 hd
  exact ⟨by rw [PyData.canLay0]; exact strOk_word (h w hw), by rw [PyData.depth]⟩
theorem eqv_dstrs : ∀ ws us : List Str, PyData.eqvAll (dStrs ws) (dStrs us) = decide (ws = us)
  | [], [] => by simp [dStrs, PyData.eqvAll]
  | [], _ :: _ => by simp [dStrs, PyData.eqvAll]
  | _ :: _, [] => by simp [dStrs, PyData.eqvAll]
  | a :: ws, b :: us => by
    show PyData.eqvAll (.str a :: dStrs ws) (.str b :: dStrs us) = _
    rw [PyData.eqvAll, eqv_dstrs ws us, PyData.eqv]
    by_cases h : a = b
    · by_cases h2 : ws = us <;> simp [h, h2]
    · simp [h]
theorem dp_strs {K : PySem.W.Frag} {H : Hp} : ∀ ws : List Str, DpAll K H (ws.map V.str) (dStrs ws)
  | [] => .nil
  | w :: ws => .cons (.str w) (dp_strs ws)
theorem dp_bools {K : PySem.W.Frag} {H : Hp} : ∀ bs : List Bool, DpAll K H (bs.map V.bl) (bs.map PyData.bool)
  | [] => .nil
  | w :: ws => .cons (.bl w) (dp_bools ws)
theorem flat_bools {bs : List Bool} : ∀ d ∈ bs.map PyData.bool, d.canLay0 = true ∧ d.depth = 0 := by
  intro d hd
  obtain ⟨w, hw, rfl⟩ := List.mem_map.1 hd
  exact ⟨by rw [PyData.canLay0], by rw [PyData.depth]⟩
theorem eqv_bools : ∀ bs cs : List Bool, PyData.eqvAll (bs.map PyData.bool) (cs.map PyData.bool) = decide (bs = cs)
  | [], [] => by simp [PyData.eqvAll]
  | [], _ :: _ => by simp [PyData.eqvAll]
  | _ :: _, [] => by simp [PyData.eqvAll]
  | a :: ws, b :: us => by
    show PyData.eqvAll (.bool a :: ws.map PyData.bool) (.bool b :: us.map PyData.bool) = _
    rw [PyData.eqvAll, eqv_bools ws us, PyData.eqv]
    by_cases h : a = b
    · by_cases h2 : ws = us <;> simp [h, h2]
    · simp [h]
section
variable {l : List Asn} {H : Hp} {p p2 : Addr} {K : PySem.W.Frag} {Q : VK} {e e2 : Nat} {ws us : List Str} {bs cs : List Bool}
theorem eq_tups (S : Sep l H) (hi : l[e]? = some (Tp p (ws.map V.str))) (hj : l[e2]? = some (Tp p2 (us.map V.str))) (h1 : ∀ w ∈ ws, Wd w) (h2 : ∀ w ∈ us, Wd w) (q : Q (.bl (decide (ws = us))) H) : gEq K (.ref p) (.ref p2) H Q :=
  .inr ⟨.tuple (dStrs ws), .tuple (dStrs us), .tup (SqT.of (S.tp hi)) (dp_strs ws), .tup (SqT.of (S.tp hj)) (dp_strs us), shaped_tup (flat_dstrs h1), shaped_tup (flat_dstrs h2), by rw [PyData.eqv, eqv_dstrs]; exact q⟩
theorem ne_tups (S : Sep l H) (hi : l[e]? = some (Tp p (ws.map V.str))) (hj : l[e2]? = some (Tp p2 (us.map V.str))) (h1 : ∀ w ∈ ws, Wd w) (h2 : ∀ w ∈ us, Wd w) (q : Q (.bl (!decide (ws = us))) H) : gNe K (.ref p) (.ref p2) H Q :=
  .inr ⟨.tuple (dStrs ws), .tuple (dStrs us), .tup (SqT.of (S.tp hi)) (dp_strs ws), .tup (SqT.of (S.tp hj)) (dp_strs us), shaped_tup (flat_dstrs h1), shaped_tup (flat_dstrs h2), by rw [PyData.eqv, eqv_dstrs]; exact q⟩
theorem eq_bls (S : Sep l H) (hi : l[e]? = some (At p (.lst (bs.map V.bl)))) (hj : l[e2]? = some (At p2 (.lst (cs.map V.bl)))) (q : Q (.bl (decide (bs = cs))) H) : gEq K (.ref p) (.ref p2) H Q :=
  .inr ⟨.list (bs.map .bool), .list (cs.map .bool), .lst (SqL.of (S.at hi)) (dp_bools bs), .lst (SqL.of (S.at hj)) (dp_bools cs), shaped_lst flat_bools, shaped_lst flat_bools, by rw [PyData.eqv, eqv_bools]; exact q⟩
theorem ne_bls (S : Sep l H) (hi : l[e]? = some (At p (.lst (bs.map V.bl)))) (hj : l[e2]? = some (At p2 (.lst (cs.map V.bl)))) (q : Q (.bl (!decide (bs = cs))) H) : gNe K (.ref p) (.ref p2) H Q :=
  .inr ⟨.list (bs.map .bool), .list (cs.map .bool), .lst (SqL.of (S.at hi)) (dp_bools bs), .lst (SqL.of (S.at hj)) (dp_bools cs), shaped_lst flat_bools, shaped_lst flat_bools, by rw [PyData.eqv, eqv_bools]; exact q⟩
/-! rules -/
variable {C : Addr} {a b : V} {ks : List V}
theorem ru_least {f : Str} (hf : f = "least") (S : Sep l H) (hi : l[e]? = some (Ru p C a b ks)) (hC : Kl K C rNs) (q : Q a H) : gFldR K f (.ref p) H Q := by
  subst hf
  obtain ⟨t, S1⟩ := ru_open (S.pick hi)
  exact f_get S1 has0 hC (by decide +kernel) (by walk_at "lk") q
theorem ru_most {f : Str} (hf : f = "most") (S : Sep l H) (hi : l[e]? = some (Ru p C a b ks)) (hC : Kl K C rNs) (q : Q b H) : gFldR K f (.ref p) H Q := by
  subst hf
  obtain ⟨t, S1⟩ := ru_open (S.pick hi)
  exact f_get S1 has0 hC (by decide +kernel) (by walk_at "lk") q
theorem ru_kinds {f : Str} (hf : f = "kinds") (S : Sep l H) (hi : l[e]? = some (Ru p C a b ks)) (hC : Kl K C rNs) (k : ∀ t, Sep (Tp t ks :: l) H → Q (.ref t) H) : gFldR K f (.ref p) H Q := by
  subst hf
  obtain ⟨t, S1⟩ := ru_open (S.pick hi)
  exact f_get S1 has0 hC (by decide +kernel) (by walk_at "lk") (k t (S.addT (S1.tp (i := 1) rfl)))
end
theorem Sep.dropN : ∀ (n : Nat) {l : List Asn} {H : Hp}, Sep l H → Sep (l.drop n) H
  | 0, _, _, S => S
  | _ + 1, [], _, S => S
  | n + 1, _ :: _, _, S => Sep.dropN n S.tail
theorem Sep.keep {l : List Asn} {H : Hp} (S : Sep l H) : ∃ L, L = l ∧ Sep L H := ⟨l, rfl, S⟩
local macro_rules | `(tactic| walk_at "hasR") => `(tactic| (first | with_reducible exact has0 | ((with_reducible refine' hasS ?h2); (case h2 => walk_at "hasR")) | fail "has"))
local macro_rules | `(tactic| walk_at "hasD") => `(tactic| (first | exact has0 | ((with_reducible refine' hasS ?h2); (case h2 => walk_at "hasD")) | fail "has"))
local macro_rules | `(tactic| walk_at "has") => `(tactic| (first | walk_at "hasR" | walk_at "hasD" | fail "has"))
local macro_rules | `(tactic| walk_at "v1") => `(tactic| (first
  | ((with_reducible refine' ru_least ?hf (by assumption) ?hi ?hC ?_); (case hf => decide +kernel); (case hi => walk_at "has"); (case hC => assumption))
  | ((with_reducible refine' ru_most ?hf (by assumption) ?hi ?hC ?_); (case hf => decide +kernel); (case hi => walk_at "has"); (case hC => assumption))
  | ((with_reducible refine' ru_kinds ?hf (by assumption) ?hi ?hC ?_); (case hf => decide +kernel); (case hi => walk_at "has"); (case hC => assumption); intro _ _)))

/-! sorted by key=str: of a dict's keys, a tuple, a list -/
section
open PyProof.Rows
abbrev byStr : Str → Str → Bool := PySem.W.dataLe false (fun w : Str => PyData.str w)
theorem byStr_pairs (ks : List Str) : sortedS (ks.mergeSort byStr) = true := by
  refine sortedS_of_pairwise _ ?_
  have h := PySem.W.sort_pairwise (PySem.W.sortLe_total (listOrd itemOrd) false fun w : Str => PySem.W.keyToks (PyData.str w)) ks
  refine h.imp fun {a b} hab => ?_
  have e : byStr a b = decide (a.cps.toList ≤ b.cps.toList) := congrFun (congrFun (PySem.W.dataLe_str fun w : Str => w) a) b
  have hab' : byStr a b = true := hab
  rw [e] at hab'
  rw [ltCps_eq]
  exact decide_eq_false (List.not_lt.2 (of_decide_eq_true hab'))
section
variable {prog : Program} {w : World} {A : Around} {E : Value → Shared → Prop} {s : Shared}
theorem each_of_vals : ∀ {ks : List Str} {vs : List Value}, Vals (ks.map V.str) vs → PySem.W.EachIs (fun v (x : Str) => RelV (.str x) v) vs ks
  | [], [], _ => .nil
  | k :: ks, v :: vs, .cons r rr => .cons r (each_of_vals rr)
theorem vals_of_each : ∀ {vs : List Value} {ks : List Str}, PySem.W.EachIs (fun v (x : Str) => RelV (.str x) v) vs ks → Vals (ks.map V.str) vs
  | _, _, .nil => .nil
  | _, _, .cons r rr => .cons r (vals_of_each rr)
theorem ls_key {a : Addr} {n : Nat} {vs : List Value} {ks : List Str} {Q : Value → Shared → Prop} (ho : s.heap.get? a = some (seqObj "list" vs.toArray n)) (r : Vals (ks.map V.str) vs) (hL : ks.length ≤ sizeLine) (hu : A.units + 1 < cLine)
    (h : ∀ out c h' tk ys, PySem.W.KeepsBut a s.heap h' → h'.get? a = some (seqObj "list" (List.toArray out) c) → ys.Perm ks → sortedS ys = true → Vals (ys.map V.str) out → Q .none { s with heap := h', toks := tk }) :
    wpAny (model prog w) A (call (.builtin "list.sort") [.ref a] [(Str.ofString "key", .type "str")]) Q E s := by
  refine PySem.W.list_sort_key_data (f := .type "str") (b := false) (fun x : Str => PyData.str x) ho (each_of_vals r) (fun d hd d' hd' => ?_) (.inr fun d hd => ?_) hL (fun x _ => ?_) (ksk_l1 _ _) rfl (fun v x hv hx h tk kp => ?_) fun out c h' tk kp hat hl e => ?_
  · obtain ⟨x, _, rfl⟩ := List.mem_map.1 hd
    obtain ⟨y, _, rfl⟩ := List.mem_map.1 hd'
    rfl
  · obtain ⟨x, _, rfl⟩ := List.mem_map.1 hd
    exact ⟨(fun z => nomatch z), (fun _ z => nomatch z)⟩
  · have e : (PyData.str x).depth = 0 := by rw [PyData.depth]
    show A.units + 1 + (PyData.str x).depth < cLine
    rw [e]; exact hu
  · obtain ⟨t, rfl⟩ := hv
    exact PySem.P.str_of_str ⟨h, tk, rfl, fun _ _ q => q, .str x t⟩
  · exact h out c h' tk _ kp hat (List.mergeSort_perm ks byStr) (byStr_pairs ks) (vals_of_each e)
/-- sorted of what is gathered as vs -/
theorem so_key {it : Value} {ks : List Str} {Q : Value → Shared → Prop} (hL : ks.length ≤ sizeLine) (hu : A.units + 3 < cLine)
    (hc : ∀ (P : List Value → Shared → Prop), (∀ (vs : List Value) (h' : Heap) (tk : Nat), (∀ b o, s.heap.get? b = some o → h'.get? b = some o) → Vals (ks.map V.str) vs → P vs { s with heap := h', toks := tk }) → wpAny (model prog w) A.in1 (collect it) P E s)
    (h : ∀ (h1 h2 : Heap) (tk : Nat) (ys : List Str) (out : List Value) (c : Nat), (∀ b o, s.heap.get? b = some o → h1.get? b = some o) → (∀ b o, h1.get? b = some o → h2.get? b = some o) → h2.get? h1.objs.size = some (seqObj "list" (List.toArray out) c) → ys.Perm ks → sortedS ys = true → Vals (ys.map V.str) out → Q (.ref h1.objs.size) { s with heap := h2, toks := tk }) :
    wpAny (model prog w) A (call (.builtin "sorted") [it] [(Str.ofString "key", .type "str")]) Q E s := by
  refine call_function_entry_kw kind_sorted plain_sorted entry_sorted (ksk_s1 _ _) ?_
  unfold Builtin.«sorted»
  refine wpAny_bind (m := checkCount "sorted" 1 1 _) (wpAny_pure ?_)
  refine wpAny_bind (hc _ fun vs h1 tk1 k1 r => ?_)
  have hl : vs.length = ks.length := by rw [← r.length, List.length_map]
  refine wpAny_bind (wpAny_newList ?_ (by rw [hl]; exact hL))
  have hoL : (h1.push (seqObj "list" vs.toArray 0)).get? h1.objs.size = some (seqObj "list" vs.toArray 0) := Heap.get?_push_size _ rfl
  show wpAny _ _ _ _ _ { s with heap := h1.push (seqObj "list" vs.toArray 0), toks := tk1 }
  refine wpAny_bind (wpAny_holding (ls_key (s := { s with heap := h1.push (seqObj "list" vs.toArray 0), toks := tk1 }) hoL r hL (show A.units + 1 + 1 < cLine by omega) fun out c h2 tk2 ys kp hat hp hs hv => ?_))
  have hn1 : h1.get? h1.objs.size = none := Heap.get?_none_of_le (Nat.le_refl _)
  exact wpAny_pure ⟨_, rfl, h h1 h2 tk2 ys out c k1 (fun b o q => kp b o (fun z => by rw [z, hn1] at q; cases q) (Heap.get?_push_of_some _ q)) hat hp hs hv⟩
end
section
variable {X : Cx}
/-- sorted(x, key=str): of a dict's keys, a tuple, a list of texts -/
def gSortK (K : PySem.W.Frag) : List V → List V → Hp → VK → Prop := fun vs zs H Q => ∃ (a : Addr) (ks : List Str), vs = [.ref a] ∧ zs = [.ty "str"] ∧ ks.length ≤ 1000 ∧
  ((∃ kvs, Rd H a (.dK kvs) ∧ kvs.map (·.1) = ks.map Sum.inr) ∨ SqT K H a (ks.map V.str) ∨ SqL K H a (ks.map V.str)) ∧
  ∀ ys p, ys.Perm ks → sortedS ys = true → H p = none → Q (.ref p) (upd H p (.lst (ys.map V.str)))
theorem call_gSortK {K : PySem.W.Frag} (hK : X.K = K) (hcalm : X.calm = true) (hu : X.A.units + 64 < cLine) : CallRK X (.builtin "sorted") [Str.ofString "key"] (gSortK K) := by
  subst hK
  intro pins s σ H vs zs us ws Q I r rz h
  obtain ⟨a, ks, rfl, rfl, h1000, ha, q⟩ := h
  obtain rfl := Vals.ref1 r
  obtain ⟨w1, rfl, e1⟩ := vals1 rz
  obtain rfl : w1 = Value.type "str" := e1
  have hL : ks.length ≤ sizeLine := Nat.le_trans h1000 (by decide)
  refine so_key (s := s) (ks := ks) hL (show X.A.units + 3 < cLine by omega) (fun P k => ?_) fun h1 h2 tk ys out c k1 k2 hat hp hs hv => ?_
  · rcases ha with ⟨kvs, hd, hks⟩ | hT | hS
    · obtain ⟨z, lo, vs, rel, dd⟩ := dk_rd I.hok hd
      obtain ⟨ep, hat⟩ := dd.dictAt
      have hkeys : vs.map (·.1) = ks.map Sum.inr := rel.keys.symm.trans hks
      have hl : vs.length = ks.length := by
        have e := congrArg List.length hkeys
        rw [List.length_map, List.length_map] at e
        exact e
      have h16 : vs.length ≤ sizeLine := by rw [hl]; exact hL
      refine PySem.W.kdu_collect (A := X.A.in1) (PySem.W.kdl_dict (knd := mixKind X.prog X.w) (kvs := vs) (ep := ep) lo) (I.ok.hd hcalm) hat h16 fun h' tk acc hk hacc => ?_
      refine k _ _ _ hk ?_
      have e : ks.map V.str = vs.map fun p => kV p.1 := by
        have e1 : vs.map (fun p => kV p.1) = (vs.map (·.1)).map kV := by rw [List.map_map]; rfl
        rw [e1, hkeys, List.map_map]; rfl
      rw [e]
      exact keys_at (by rw [Array.length_toList, hacc.1]) fun j v ev => hacc.2 j v (by rw [← Array.getElem?_toList]; exact ev)
    · obtain ⟨its, rv, p, hz⟩ := I.tuple hT
      have p' : s.heap.IsTuple a its.toArray := p
      obtain ⟨o, ho, hc, n, hd⟩ := p'
      have hl := rv.length
      rw [List.length_map] at hl
      exact wpAny_collect_seq a (.inr rfl) ho hc hd (fun h' hk => k _ _ _ hk (by rw [show its.toArray.toList = its by simp]; exact rv)) (by rw [List.size_toArray]; omega)
    · obtain ⟨its, rv, p, hz⟩ := I.list hS
      obtain ⟨o, ho, hc, n, hd⟩ := p.isList
      have hl := rv.length
      rw [List.length_map] at hl
      exact wpAny_collect_seq a (.inl rfl) ho hc hd (fun h' hk => k _ _ _ hk (by rw [show its.toArray.toList = its by simp]; exact rv)) (by rw [List.size_toArray]; omega)
  · have I1 : Inv X pins σ H { s with heap := h1, toks := s.toks } := I.kept k1
    have hlen : (ys.map V.str).length ≤ sizeLine := by rw [List.length_map, hp.length_eq]; exact hL
    exact ⟨.ref h1.objs.size, upd H h1.objs.size (.lst (ys.map V.str)), I1.laid (t' := tk) k2 (Nat.le_refl _) (show ObjOk X.prog X.w _ _ _ (.lst (ys.map V.str)) from ⟨hlen, out, c, hv, hat⟩), rfl, q ys _ hp hs (I1.hok.fresh (Nat.le_refl _))⟩
end
/-! its step -/
section
variable {l : List Asn} {H : Hp} {p : Addr} {K : PySem.W.Frag} {Q : VK} {e : Nat} {ws : List Str}
theorem r_ckw {σ : L2.St} {r : List V → List V → Hp → VK → Prop} {t tk : TA} (q : t σ H fun vs H1 => tk σ H1 fun zs H2 => r vs zs H2 Q) : tCKw r t tk σ H Q := q
theorem sk_list (S : Sep l H) (hi : l[e]? = some (At p (.lst (ws.map V.str)))) (hz : ws.length ≤ 1000) (k : ∀ (ys : List Str) d H', ys.Perm ws → sortedS ys = true → Sep (At d (.lst (ys.map V.str)) :: l) H' → Q (.ref d) H') : gSortK K [.ref p] [.ty "str"] H Q :=
  ⟨p, ws, rfl, rfl, hz, .inr (.inr (SqL.of (S.at hi))), fun ys d hp hs hd => k ys d _ hp hs (S.new hd)⟩
theorem sk_tup (S : Sep l H) (hi : l[e]? = some (Tp p (ws.map V.str))) (hz : ws.length ≤ 1000) (k : ∀ (ys : List Str) d H', ys.Perm ws → sortedS ys = true → Sep (At d (.lst (ys.map V.str)) :: l) H' → Q (.ref d) H') : gSortK K [.ref p] [.ty "str"] H Q :=
  ⟨p, ws, rfl, rfl, hz, .inr (.inl (SqT.of (S.tp hi))), fun ys d hp hs hd => k ys d _ hp hs (S.new hd)⟩
theorem sk_dict {kvs : List (Key × V)} (S : Sep l H) (hi : l[e]? = some (At p (.dK kvs))) (hk : kvs.map (·.1) = ws.map Sum.inr) (hz : ws.length ≤ 1000) (k : ∀ (ys : List Str) d H', ys.Perm ws → sortedS ys = true → Sep (At d (.lst (ys.map V.str)) :: l) H' → Q (.ref d) H') : gSortK K [.ref p] [.ty "str"] H Q :=
  ⟨p, ws, rfl, rfl, hz, .inl ⟨kvs, .inl (S.at hi), hk⟩, fun ys d hp hs hd => k ys d _ hp hs (S.new hd)⟩
end
end
local macro_rules | `(tactic| walk_at "v1") => `(tactic| (with_reducible refine r_ckw ?_))

/-! a def whose only further parameter gathers keywords, called without any; an instance made without arguments -/
section
open PyProof.Rows
section
variable {CX : CXT} {P : Program} {w : World} {K : PySem.W.Frag} {mg : Str → Option Value} {base : Heap} {k : Nat} {f : Addr} {name qual : Str} {params : Arguments} {body : List Stmt} {scope : Scope} {dV kV doc pm cdv ct oc : Value} {an od : Option Addr}
  {osl : Array (Option Value)} {N ps : List Str} {sp : Sp}
theorem fn_kw0 {pd : Str} (lk : K.lookup f = some ⟨oc, od, .func (PySem.W.fnOf name qual params body scope dV kV doc pm an cdv ct), osl⟩) (hcd : PySem.W.codeIn K cdv qual = true) (S : FnScope N (ps ++ [pd]) scope) (hCX : StX.CXUp CX)
    (bind : ∀ us : List Value, us.length = ps.length → bindArgs (PySem.W.fnOf name qual params body scope dV kV doc pm an cdv ct) ⟨us, []⟩ = ((alloc ({ cls := .type "dict", data := .dict #[] } : Obj) : Sem Addr) >>= fun d => pure (ps.zip us ++ [(pd, Value.ref d)])))
    (walk : ∀ (A : Around) (outer : List Env) (s : Shared) (H : Hp) (vs : List V) (Q : VK) (E : XK), Room k (A.deeper (envOfC qual scope s.heap.objs.size f cdv)) → sp vs H Q E →
      ∃ t, PSs (cxOf CX P w K mg base N qual scope f cdv A outer s H E) body t ∧ t { nx := fun _ H' => Q .non H', rt := Q } (start N vs) H) :
    FnR P w K mg base CX (k + 1) f (fun vs H Q E => vs.length = ps.length ∧ ∀ d, H d = Option.none → sp (vs ++ [V.ref d]) (upd H d (.dK [])) Q E) := by
  rintro A outer s H us vs Q E hr e0 r ⟨hl, hq⟩
  have hn : H s.heap.objs.size = Option.none := e0.hok.fresh (Nat.le_refl _)
  have hlu : us.length = ps.length := by rw [← r.length]; exact hl
  refine StX.run_bnd lk hcd S hr e0 (G := fun xs H2 => ∃ d, H d = Option.none ∧ xs = vs ++ [V.ref d] ∧ H2 = upd H d (.dK [])) (fun A' Ex Q' h => ?_) (fun s2 H2 xs g hr' => ?_)
  · rw [bind us hlu]
    refine wpAny_bind (wpAny_alloc (wpAny_pure ?_))
    have un := StX.un_laid (fs := frs outer) (s := s) (o := ({ cls := .type "dict", data := .dict #[] } : Obj)) (u := .dK []) hn
    have e1 := StX.env0_laid (u := .dK []) (o := ({ cls := .type "dict", data := .dict #[] } : Obj)) e0 (dk_empty _ (StX.env0_big e0))
    have z := h _ _ (vs ++ [V.ref s.heap.objs.size]) (us ++ [Value.ref s.heap.objs.size]) e1 un rfl (fun e s' => hCX outer s H _ _ E e s' un (fun b o q => Heap.get?_push_of_some _ q) rfl) (r.append (.cons rfl .nil))
      (by rw [List.length_append, List.length_append, hl] <;> rfl) ⟨_, hn, rfl, rfl⟩
    rw [List.zip_append hlu.symm] at z
    exact z
  · obtain ⟨d, hd, rfl, rfl⟩ := g
    exact walk A outer s2 _ _ Q E hr' (hq d hd)
end
theorem fun_kw0 {P : Program} {w : World} {K : PySem.W.Frag} {mg : Str → Option Value} {base : Heap} {x qual : Str} {st : Stmt} {f : Addr} {fd : FuncData} {N ps : List Str} {pd : Str} {k : Nat} {sp : Sp} (F : Fun K x qual st f fd) (S : FnScope N (ps ++ [pd]) (defScope st))
    (bind : ∀ (kV doc pm : Value) (an : Option Addr) (cdv ct : Value) (us : List Value), us.length = ps.length → bindArgs (PySem.W.fnOf x qual (defArgs st) (defBody st) (defScope st) .none kV doc pm an cdv ct) ⟨us, []⟩ = ((alloc ({ cls := .type "dict", data := .dict #[] } : Obj) : Sem Addr) >>= fun d => pure (ps.zip us ++ [(pd, Value.ref d)])))
    (walk : ∀ (cdv : Value) (A : Around) (outer : List Env) (s : Shared) (H : Hp) (vs : List V) (Q : VK) (E : XK), Room k (A.deeper (envOfC qual (defScope st) s.heap.objs.size f cdv)) → sp vs H Q E →
      ∃ t, PSs (cxOf CX0 P w K mg base N qual (defScope st) f cdv A outer s H E).nox (defBody st) t ∧ t { nx := fun _ H' => Q .non H', rt := Q } (start N vs) H) :
    FnR P w K mg base CX0 (k + 1) f (fun vs H Q E => vs.length = ps.length ∧ ∀ d, H d = Option.none → sp (vs ++ [V.ref d]) (upd H d (.dK [])) Q E) := by
  obtain ⟨oc, od, kV, doc, pm, an, cdv, ct, osl, rfl, lk, hcd⟩ := F.ex
  refine fn_kw0 lk hcd S StX.cxUp_none (bind kV doc pm an cdv ct) fun A outer s H vs Q E hr hsp => ?_
  obtain ⟨t, h, q⟩ := walk cdv A outer s H vs Q E hr hsp
  exact ⟨t, h.nox, q⟩
/-- C() -/
theorem pe_makeR0 {X : Cx} {CX : CXT} {k : Nat} {f C : Addr} {sp : Sp} {E : XK} {x : Str} {p pos : Pos} (M : Mk X.K C f) (F : FnR X.prog X.w X.K X.mg X.base CX k f sp) (hr : Room (k + 1) X.A) (hg : Gl X x) (hm : X.mg x = some (.ref C)) (hx : Passes CX X E) (hdb : (x == ("__debug__" : Str)) = false := by decide) :
    PE X (.Call (.Name x p) [] [] pos) (StX.tMakeR C sp E tNil) := by
  refine ⟨fun pins s σ H Q I h => ?_⟩
  refine wpAny_Call_Name_kw (ld_glob I hg hm ?_ hdb)
  exact PySem.W.callWith_K0 (first := []) I.kIn M.kp (StX.run_makeR M F hr hx I .nil h)
/-- o.m() -/
theorem pe_methR0 {X : Cx} {CX : CXT} {k : Nat} {C f : Addr} {m : Str} {sp : Sp} {E : XK} {o : Expr} {ta : TE} {apos pos : Pos} {pl : Sem Bool} (he : PE X o ta) (c : Cls X.K C) (hm : Meth X.K C m f)
    (F : FnR X.prog X.w X.K X.mg X.base CX k f sp) (hr : Room k X.A) (hx : Passes CX X E)
    (ht : eval (.Call (.Attribute o m apos) [] [] pos) X.env = (do
      let ov ← eval o X.env
      standAt apos.atName
      let (f, first) ← holding [ov] (getMethod ov m pl)
      callWith pos f first (backTo pos (starEach [] X.env)) (backToKw pos (keywordEach [] X.env))) := by rfl) :
    PE X (.Call (.Attribute o m apos) [] [] pos) (tMethR C m sp E ta tNil) := by
  refine ⟨fun pins s σ H Q I h => ?_⟩
  refine PySem.W.methodCall_KW (pl := pl) (thn (he.run pins s σ H _ I h) fun u s1 ⟨x, H1, I1, rx, a, dx, fs, ex, ea, l, q⟩ => ?_) ht
  subst ex
  obtain rfl : u = Value.ref a := rx
  refine getmeth_ok I1 ea c hm l ?_
  exact PySem.W.callWith_K0 (first := [.ref a]) I1.kIn hm.kp (wpAny_call (run_fnR (us := [.ref a]) (vs := [.ref a]) F hr hx I1 (.cons rfl .nil) q))
/-- the receiver is an instance without such an attribute -/
def gM (C : Addr) (m : Str) (x : V) (H : Hp) (R : Prop) : Prop := ∃ a dx fs, x = .ref a ∧ H a = some (.ins C dx fs) ∧ fs.lookup m = none ∧ R
theorem r_meth {C : Addr} {m : Str} {sp : Sp} {E : XK} {ta : TE} {t : TA} {σ : L2.St} {H : Hp} {Q : VK} (q : ta σ H fun x H1 => gM C m x H1 (t σ H1 fun vs H2 => sp (x :: vs) H2 Q E)) : tMethR C m sp E ta t σ H Q := q
theorem lkN {f g : Str} {v : V} (h : (f == g) = false) : List.lookup f [(g, v)] = none := by
  show (match f == g with | true => some v | false => _) = _
  rw [h]; rfl

end
/-! counts -/
def kwSp (n : Nat) (sp : Sp) : Sp := fun vs H Q E => vs.length = n ∧ ∀ d, H d = Option.none → sp (vs ++ [V.ref d]) (upd H d (.dK [])) Q E
/-- counts: an instance whose dict has the words with a number that is not 0 -/
def Good (m : List (Str × Int)) : Prop := (keys m).Nodup ∧ (∀ x ∈ m, x.2 ≠ 0 ∧ Wd x.1) ∧ m.length ≤ 500
def Co (p C : Addr) (g : Str → Int) : Asn := Exs fun (x : Addr × List (Str × Int)) => Pk [pure' (Good x.2 ∧ num x.2 = g), Ob p C [("_numbers", .ref x.1)], At x.1 (.dK (mp x.2))]
abbrev cNs : List Str := ["_numbers"]
section
variable {l : List Asn} {H : Hp} {p C d : Addr} {g : Str → Int} {m : List (Str × Int)}
theorem co_open (S : Sep (Co p C g :: l) H) : ∃ d m, Good m ∧ num m = g ∧ Sep (Ob p C [("_numbers", .ref d)] :: At d (.dK (mp m)) :: l) H := by
  obtain ⟨⟨d, m⟩, S⟩ := S.ex
  obtain ⟨⟨h1, h2⟩, S⟩ := (S.open').pure
  exact ⟨d, m, h1, h2, S⟩
theorem co_close (h : Good m) (e : num m = g) (S : Sep (Ob p C [("_numbers", .ref d)] :: At d (.dK (mp m)) :: l) H) : Sep (Co p C g :: l) H :=
  Sep.ex' (x := (d, m)) (Sep.close' (l := [_, _, _]) (Sep.pure_in ⟨h, e⟩ S))
end
theorem m_co {l : List Asn} {H : Hp} {p C : Addr} {g : Str → Int} {f : Str} {R : Prop} {e : Nat} (S : Sep l H) (hi : l[e]? = some (Co p C g)) (hf : (f == ("_numbers" : Str)) = false) (q : R) : gM C f (.ref p) H R := by
  obtain ⟨d, m, _, _, S1⟩ := co_open (S.pick hi)
  obtain ⟨dx, h⟩ := ob_at S1 (e := 0) rfl
  exact ⟨p, dx, _, rfl, h, lkN hf, q⟩
local macro_rules | `(tactic| walk_at "v1") => `(tactic| (first
  | with_reducible refine r_meth ?_
  | ((with_reducible refine' m_co (by assumption) ?hi ?hf ?_); (case hi => walk_at "has"); (case hf => decide +kernel))))
/-! dict comprehensions -/
def DcB (J : It) (g : TG) (tt : TT) (tk tv : TE) (vs : List Nat) : L2.St → Hp → VK → Prop := fun σ H1 Q => ∀ D, H1 D = none → ∃ W : Nat → Nat → Hp → Prop, (∃ m, W 0 m (upd H1 D (.dK []))) ∧ ∀ i m H, W i m H →
  (J.stop i H ∧ Q (.ref D) H) ∨ (J.go i H ∧ ∃ Nx : Hp → Prop, (∀ H', Nx H' → ∃ m', m' < m ∧ W (i + 1) m' H') ∧ ∀ x H', J.yld i H x H' → g x (wipe σ vs) H' fun σ2 H2 => wipe σ2 vs = wipe σ vs ∧ tt σ2 H2 fun b H3 =>
    if b = true then tk σ2 H3 fun y H4 => tv σ2 H4 fun z H5 => ∃ kvs k, y = kV k ∧ H5 D = some (.dK kvs) ∧ kvs.length < sizeLine ∧ Nx (upd H5 D (.dK (putK kvs k z))) else Nx H3)
/-- the item goes to the new dict -/
def gDPut (D : Addr) (y z : V) (H : Hp) (N : Hp → Prop) : Prop := ∃ kvs k, y = kV k ∧ H D = some (.dK kvs) ∧ kvs.length < sizeLine ∧ N (upd H D (.dK (putK kvs k z)))
def DcT (g : TG) (tt : TT) (tk tv : TE) (vs : List Nat) (σ : L2.St) (x : V) (D : Addr) (N : Hp → Prop) (H : Hp) : Prop := g x (wipe σ vs) H fun σ2 H2 => wipe σ2 vs = wipe σ vs ∧ tt σ2 H2 fun b H3 =>
  if b = true then tk σ2 H3 fun y H4 => tv σ2 H4 fun z H5 => gDPut D y z H5 N else N H3
section
variable {σ : L2.St} {H : Hp} {K : PySem.W.Frag} {g : TG} {te ta tk tv : TE} {tt : TT} {vs : List Nat} {Q : VK} {l : List Asn} {p : Addr} {xs : List V}
theorem dc_turn {x : V} {N : Hp → Prop} {D : Addr} (q : g x (wipe σ vs) H fun σ2 H2 => wipe σ2 vs = wipe σ vs ∧ tt σ2 H2 fun b H3 => if b = true then tk σ2 H3 fun y H4 => tv σ2 H4 fun z H5 => gDPut D y z H5 N else N H3) : DcT g tt tk tv vs σ x D N H := q
theorem r_dcL (q : te σ H fun x H1 => ∃ a, x = .ref a ∧ (∃ xs, SqL K H1 a xs) ∧ DcB (Itl K a) g tt tk tv vs σ H1 Q) : tDc (iList K te) g tt tk tv vs σ H Q := q
/-- {k: v for x in xs if ..}, xs at an address of ours; D: the new dict's address -/
theorem dcL {e : Nat} (S : Sep l H) (hi : l[e]? = some (At p (.lst xs))) (Pv : Addr → Nat → Hp → Prop) (h0 : ∀ D H', Sep (At D (.dK []) :: l) H' → Pv D 0 H') (hl : ∀ D i H, Pv D i H → H p = some (.lst xs))
    (hs : ∀ D i x H, xs[i]? = some x → Pv D i H → DcT g tt tk tv vs σ x D (Pv D (i + 1)) H) (hd : ∀ D H, Pv D xs.length H → Q (.ref D) H) : ∃ a, V.ref p = .ref a ∧ (∃ xs, SqL K H a xs) ∧ DcB (Itl K a) g tt tk tv vs σ H Q := by
  refine ⟨p, rfl, ⟨xs, SqL.of (S.at hi)⟩, fun D hD => ⟨fun i m H => m = xs.length - i ∧ i ≤ xs.length ∧ Pv D i H, ⟨xs.length, by simp, Nat.zero_le _, h0 D _ (S.new hD)⟩, ?_⟩⟩
  rintro i m H ⟨rfl, hi, q⟩
  have hq := SqL.of (K := K) (hl D i H q)
  by_cases hlt : i < xs.length
  · refine .inr ⟨⟨xs, xs[i], hq, by simp [hlt]⟩, Pv D (i + 1), fun H' p' => ⟨xs.length - (i + 1), by omega, rfl, hlt, p'⟩, fun x H' y => ?_⟩
    obtain ⟨rfl, f⟩ := y
    exact hs D i x _ (f xs hq) q
  · have e : i = xs.length := by omega
    subst e
    exact .inl ⟨⟨xs, hq, Nat.le_refl _⟩, hd D H q⟩
theorem dp_put {e : Nat} {D : Addr} {m : List (Str × Int)} {w : Str} {n : Int} {N : Hp → Prop} (S : Sep l H) (hi : l[e]? = some (At D (.dK (mp m)))) (hn : (keys m).Nodup) (hz : m.length < 100000) (k : ∀ H', Sep (l.set e (At D (.dK (mp (mput m w n))))) H' → N H') : gDPut D (.str w) (.int n) H N :=
  ⟨mp m, Sum.inr w, rfl, S.at hi, by rw [List.length_map]; exact Nat.lt_of_lt_of_le hz (by decide), by rw [put_mp m w n hn]; exact k _ (S.upd hi fun _ z => nomatch z)⟩
end
theorem var_at {i : Nat} {σ : L2.St} {v : V} (h : σ[i]? = some (some v)) : ∀ H', tVar i σ H' = fun Q => Q v H' :=
  fun _ => funext fun _ => propext ⟨fun ⟨u, e, q⟩ => by rw [h] at e; cases e; exact q, fun q => ⟨v, h, q⟩⟩
/-- {.. for .. in d.items() ..}, d locked meanwhile and without an item -/
theorem dcI0 {σ : L2.St} {H : Hp} {g : TG} {te tk tv : TE} {tt : TT} {vs : List Nat} {Q : VK} {l : List Asn} {p : Addr} {e : Nat} (S : Sep l H) (hi : l[e]? = some (At p (.dK []))) (hv : ∀ H', te σ H' = fun Q => Q (.ref p) H')
    (k : ∀ D H', Sep (At D (.dK []) :: l) H' → Q (.ref D) H') : tLockE (tDc (iItems te) g tt tk tv vs) σ H Q := by
  refine ⟨p, .dK [], S.at hi, trivial, fun od => ?_⟩
  have S' := S.upd hi (o' := .frz od (.dK [])) (fun _ z => nomatch z)
  show te σ _ _
  rw [hv]
  refine ⟨p, od, [], rfl, upd_same, fun D hD => ⟨fun i m H' => i = 0 ∧ Sep (At D (.dK []) :: l.set e (At p (.frz od (.dK [])))) H', ⟨0, rfl, S'.new hD⟩, ?_⟩⟩
  rintro i m H' ⟨rfl, S2⟩
  have he : (At D (.dK []) :: l.set e (At p (.frz od (.dK []))))[e + 1]? = some (At p (.frz od (.dK []))) := by
    show (l.set e _)[e]? = _
    exact List.getElem?_set_self (get_lt hi)
  have hf := S2.at he
  refine .inl ⟨⟨hf, Nat.le_refl _⟩, hf, ?_⟩
  have S3 := S2.upd he (o' := .dK []) (fun _ z => nomatch z)
  have e3 : (At D (.dK []) :: l.set e (At p (.frz od (.dK [])))).set (e + 1) (At p (.dK [])) = At D (.dK []) :: l := by
    show At D (.dK []) :: (l.set e _).set e _ = _
    rw [List.set_set, set_same hi]
  rw [e3] at S3
  exact k D _ S3
theorem num_at : ∀ {m : List (Str × Int)} {x : Str × Int}, (keys m).Nodup → x ∈ m → num m x.1 = x.2
  | [], _, _, h => nomatch h
  | y :: m, x, hn, h => by
    have hn' := List.nodup_cons.1 hn
    show (if y.1 = x.1 then y.2 else num m x.1) = x.2
    rcases List.mem_cons.1 h with rfl | h
    · rw [if_pos rfl]
    · rw [if_neg (fun z => hn'.1 (show y.1 ∈ keys m by rw [z]; exact List.mem_map_of_mem h))]
      exact num_at hn'.2 h
theorem filt_put {qs : List (Str × Int)} {w : Str} {n : Int} (h : w ∉ keys qs) : mput qs w n = qs ++ [(w, n)] := by
  induction qs with
  | nil => rfl
  | cons x qs ih =>
    have hx : ¬ x.1 = w := fun z => h (by rw [← z]; exact List.mem_cons_self)
    unfold mput
    rw [if_neg hx, ih fun z => h (List.mem_cons_of_mem _ z)]
    rfl
theorem not_take {α : Type} [DecidableEq α] {l : List α} {i : Nat} {x : α} (hn : l.Nodup) (h : l[i]? = some x) : x ∉ l.take i := by
  intro z
  obtain ⟨j, hj⟩ := List.mem_iff_getElem?.1 z
  have hji := get_lt hj
  rw [List.length_take] at hji
  rw [List.getElem?_take] at hj
  split at hj
  · have := (List.getElem?_inj (by have := get_lt h; omega) hn).1 (hj.trans h.symm)
    omega
  · cases hj
abbrev nz (ps : List (Str × Int)) : List (Str × Int) := ps.filter fun x => decide (x.2 ≠ 0)
theorem nz_nodup {ps : List (Str × Int)} (hn : (keys ps).Nodup) : (keys (nz ps)).Nodup := List.Nodup.sublist (List.Sublist.map _ List.filter_sublist) hn
theorem nz_turn {ps : List (Str × Int)} {i : Nat} {y : Str × Int} (hn : (keys ps).Nodup) (h : ps[i]? = some y) : (y.2 ≠ 0 → nz (ps.take (i + 1)) = mput (nz (ps.take i)) y.1 y.2) ∧ (y.2 = 0 → nz (ps.take (i + 1)) = nz (ps.take i)) := by
  have hk : (keys ps)[i]? = some y.1 := by unfold keys; rw [List.getElem?_map, h]; rfl
  have hni : y.1 ∉ keys (nz (ps.take i)) := fun z => by
    obtain ⟨x, hx, e⟩ := List.mem_map.1 z
    have hx' := (List.mem_filter.1 hx).1
    refine not_take hn hk ?_
    unfold keys
    rw [← List.map_take]
    exact List.mem_map.2 ⟨x, hx', e⟩
  constructor
  · intro hy
    rw [filt_put hni]
    unfold nz
    rw [take_snoc h, List.filter_append, List.filter_cons, if_pos (decide_eq_true hy)]
    rfl
  · intro hy
    unfold nz
    rw [take_snoc h, List.filter_append, List.filter_cons, if_neg (by rw [decide_eq_false (fun z => z hy)]; exact Bool.false_ne_true), List.filter_nil, List.append_nil]
theorem nz_good {ps : List (Str × Int)} (hn : (keys ps).Nodup) (hw : ∀ x ∈ ps, Wd x.1) (hz : ps.length ≤ 500) : Good (nz ps) :=
  ⟨nz_nodup hn, fun x hx => ⟨of_decide_eq_true (List.mem_filter.1 hx).2, hw x (List.mem_filter.1 hx).1⟩, Nat.le_trans (List.length_filter_le _ _) hz⟩
theorem filt_num {ps : List (Str × Int)} (hn : (keys ps).Nodup) : num (ps.filter fun x => decide (x.2 ≠ 0)) = num ps := by
  induction ps with
  | nil => rfl
  | cons x ps ih =>
    have hn' := List.nodup_cons.1 hn
    have ih := ih hn'.2
    funext w
    by_cases hx : x.2 ≠ 0
    · rw [List.filter_cons, if_pos (decide_eq_true hx)]
      show (if x.1 = w then x.2 else num _ w) = if x.1 = w then x.2 else num ps w
      rw [ih]
    · rw [List.filter_cons, if_neg (by rw [decide_eq_false hx]; exact Bool.false_ne_true), ih]
      show num ps w = if x.1 = w then x.2 else num ps w
      by_cases hw : x.1 = w
      · rw [if_pos hw]
        have h0 : x.2 = 0 := Classical.byContradiction hx
        rw [h0]
        exact num_none fun z => hn'.1 (show x.1 ∈ keys ps by rw [hw]; exact z)
      · rw [if_neg hw]

/-! pairs: equality, a dict's items as a list; isinstance of lists -/
section
variable {K : PySem.W.Frag} {H H' : Hp} {Q : VK} {l : List Asn} {p d : Addr} {xs : List V} {m : List (Str × Int)}
theorem i_LT {e f : Nat} {q : Addr} (S : Sep l H) (hi : l[e]? = some (At p (.lst xs))) (hj : l[f]? = some (Tp q [.ty "list", .ty "tuple"])) (k : Q (.bl true) H) : gIsi K [.ref p, .ref q] H Q :=
  .inr ⟨.ref p, q, [.ty "list", .ty "tuple"], .type "list", [.type "list", .type "tuple"], true, rfl, S.tp hj, .cons (.ty _) (.cons (.ty _) .nil), .base (.lst (S.at hi)), (by unfold PySem.W.kitAny; rw [kit_ty k_ll]), k⟩
theorem Sep.grow {o : HO} (S : Sep l H) (hk : ∀ b o, H b = some o → H' b = some o) (hp : H p = none) (h' : H' p = some o) : Sep (At p o :: l) H' := by
  obtain ⟨g, S⟩ := S
  have S' := S.st (H' := H') (fun a z => by obtain ⟨o, e⟩ := S.al a z; rw [hk _ _ e, e]) (fun b xs e => hk _ _ e)
  refine ⟨_, .cons ⟨h', fun a => Iff.rfl⟩ S' fun a z q => ?_⟩
  cases z
  obtain ⟨o, e⟩ := S.al _ q
  rw [hp] at e; cases e
theorem paired_mp : ∀ {m : List (Str × Int)} {ts : List Addr}, Paired (fun (t : Addr) (q : Key × V) => H t = some (.tup [kV q.1, q.2])) ts (mp m) → IsDs H (ts.map V.ref) (pds m)
  | [], _, .nil => .nil
  | (w, n) :: m, _, .cons h r => .cons (pair_isD h) (paired_mp r)
theorem li_items {e : Nat} (S : Sep l H) (hi : l[e]? = some (At d (.dK (mp m)))) (k : ∀ p H', Sep (LD p (pds m) :: l) H' → Q (.ref p) H') : LiI.rItemsL (.ref d) H Q :=
  ⟨d, mp m, rfl, S.at hi, fun H' p ts hk hp _ _ hl hq => k p H' (ld_close (paired_mp hq) (S.grow hk hp hl))⟩
theorem r_listItems {σ : L2.St} {te : TE} (q : te σ H fun x H1 => LiI.rItemsL x H1 Q) : LiI.tListItems te σ H Q := q
end
local macro_rules | `(tactic| walk_at "v1") => `(tactic| (first
  | with_reducible refine r_listItems ?_
  | ((with_reducible refine' li_items (by assumption) ?hi ?_); (case hi => walk_at "has"); intro _ _ _)))
theorem eqv_pds : ∀ L M : List (Str × Int), PyData.eqvAll (pds L) (pds M) = decide (L = M)
  | [], [] => by simp [PyData.eqvAll]
  | [], _ :: _ => by simp [PyData.eqvAll]
  | _ :: _, [] => by simp [PyData.eqvAll]
  | (a, n) :: ws, (b, m) :: us => by
    show PyData.eqvAll (pd (a, n) :: pds ws) (pd (b, m) :: pds us) = _
    rw [PyData.eqvAll, eqv_pds ws us]
    show (PyData.eqv (.tuple [.str a, .int n]) (.tuple [.str b, .int m]) && _) = _
    rw [PyData.eqv, PyData.eqvAll, PyData.eqvAll, PyData.eqvAll, PyData.eqv, PyData.eqv]
    by_cases h : a = b
    · by_cases h2 : n = m
      · by_cases h3 : ws = us <;> simp [h, h2, h3, Prod.ext_iff]
      · simp [h, h2, Prod.ext_iff]
    · simp [h, Prod.ext_iff]
theorem lay_pds {L : List (Str × Int)} (h : ∀ x ∈ L, Wd x.1) : PyData.canLayAll0 (pds L) = true ∧ PyData.depthAll (pds L) ≤ 1 := by
  induction L with
  | nil => exact ⟨rfl, Nat.zero_le _⟩
  | cons x L ih =>
    obtain ⟨i1, i2⟩ := ih fun y hy => h y (List.mem_cons_of_mem _ hy)
    have hs := strOk_word (h x List.mem_cons_self)
    show PyData.canLayAll0 (.tuple [.str x.1, .int x.2] :: pds L) = true ∧ PyData.depthAll (.tuple [.str x.1, .int x.2] :: pds L) ≤ 1
    refine ⟨by simp [PyData.canLayAll0, PyData.canLay0, hs, i1], by simp [PyData.depthAll, PyData.depth, i2]⟩
theorem shaped_pds {L : List (Str × Int)} (h : ∀ x ∈ L, Wd x.1) : SeqAt.shaped (.list (pds L)) = true := by
  obtain ⟨h1, h2⟩ := lay_pds h
  unfold SeqAt.shaped
  rw [PyData.canLay0, h1, PyData.depth]
  simp; omega
section
variable {l : List Asn} {H : Hp} {p p2 : Addr} {K : PySem.W.Frag} {Q : VK} {e e2 : Nat} {L M : List (Str × Int)}
theorem eq_pds (S : Sep l H) (hi : l[e]? = some (LD p (pds L))) (hj : l[e2]? = some (LD p2 (pds M))) (h1 : ∀ x ∈ L, Wd x.1) (h2 : ∀ x ∈ M, Wd x.1) (q : Q (.bl (decide (L = M))) H) : gEq K (.ref p) (.ref p2) H Q :=
  .inr ⟨.list (pds L), .list (pds M), ld_dp S hi, ld_dp S hj, shaped_pds h1, shaped_pds h2, by rw [PyData.eqv, eqv_pds]; exact q⟩
theorem ne_pds (S : Sep l H) (hi : l[e]? = some (LD p (pds L))) (hj : l[e2]? = some (LD p2 (pds M))) (h1 : ∀ x ∈ L, Wd x.1) (h2 : ∀ x ∈ M, Wd x.1) (q : Q (.bl (!decide (L = M))) H) : gNe K (.ref p) (.ref p2) H Q :=
  .inr ⟨.list (pds L), .list (pds M), ld_dp S hi, ld_dp S hj, shaped_pds h1, shaped_pds h2, by rw [PyData.eqv, eqv_pds]; exact q⟩
/-- .. is a list -/
theorem i_LD {ds : List PyData} {T : String} {b : Bool} (S : Sep l H) (hi : l[e]? = some (LD p ds)) (h : kitB "list" T = some b) (q : Q (.bl b) H) : gIsi K [.ref p, .ty T] H Q := by
  obtain ⟨vs, _, S1⟩ := ld_open (S.pick hi)
  exact i_ty (.base (.lst (S1.at (i := 0) rfl))) h q
end
local macro_rules | `(tactic| walk_at "v1") => `(tactic| ((with_reducible refine' i_LD (by assumption) ?hi ?h ?_); (case hi => walk_at "has"); (case h => (first | exact k_ll | exact k_lt | exact k_li | exact k_ls))))

/-! own operators of instances with a dict -/
section
variable {X : Cx} {CX : CXT} {n : Nat} {f C : Addr} {sp : Sp} {E : XK} {m : Str}
theorem ins_inst {pins : List (Addr × Obj)} {s : Shared} {σ : L2.St} {H : Hp} {a C dx : Addr} {fs : List (Str × V)} (I : L2.Inv X pins σ H s) (e : H a = some (.ins C dx fs)) : ∃ ox od, PySem.W.InstAt s.heap a ox C od := by
  obtain ⟨mA, O, _⟩ := ins_get I.hok e
  obtain ⟨od, J, _⟩ := O.look
  exact ⟨_, _, J⟩
/-- o[i] = v -/
def rSetOwn (C : Addr) (sp : Sp) (E : XK) : TSet := fun o i v H Q => ∃ a dx fs, o = V.ref a ∧ H a = some (.ins C dx fs) ∧ sp [V.ref a, i, v] H (fun _ H' => Q H') E
theorem set_own (hn : PySem.W.noSeq X.K C = true) (hm : Meth X.K C (Str.ofString "__setitem__") f) (F : FnR X.prog X.w X.K X.mg X.base CX n f sp) (hr : Room n X.A) (hx : Passes CX X E) : PSet X (rSetOwn C sp E) := by
  intro pins s σ H o i v ov iv u Q I ro ri rv h
  obtain ⟨a, dx, fs, rfl, ha, q⟩ := h
  cases (show ov = Value.ref a from ro)
  obtain ⟨ox, od, J⟩ := ins_inst I ha
  obtain ⟨m, hF⟩ := I.fr
  refine PySem.W.ksp_setItem hF I.ok.mod.kin J hn hm.at_ hm.fn ?_
  refine wpAny_mono (wpAny_call (run_fnR (us := [.ref a, iv, u]) (vs := [.ref a, i, v]) F hr hx I (.cons rfl (.cons ri (.cons rv .nil))) q)) (fun w s' z => ?_) fun _ _ x => x
  obtain ⟨z', H', I', rz, qz⟩ := z
  exact ⟨H', I', qz⟩
/-- len(o) -/
def rLenOwn (C : Addr) (sp : Sp) (E : XK) : List V → Hp → VK → Prop := fun xs H Q => ∃ a dx fs, xs = [V.ref a] ∧ H a = some (.ins C dx fs) ∧ sp [V.ref a] H (fun z H' => ∃ i : Int, z = .int i ∧ 0 ≤ i ∧ i < 2 ^ 63 ∧ Q z H') E
theorem call_ownLen (hm : Meth X.K C (Str.ofString "__len__") f) (F : FnR X.prog X.w X.K X.mg X.base CX n f sp) (hr : Room (n + 1) X.A) (hx : Passes CX X E) : CallR X (.builtin "len") (rLenOwn C sp E) := by
  intro pins s σ H xs us Q I r h
  obtain ⟨a, dx, fs, rfl, ha, q⟩ := h
  obtain ⟨u, rfl, ru⟩ := r.one
  cases (show u = Value.ref a from ru)
  obtain ⟨ox, od, J⟩ := ins_inst I ha
  obtain ⟨m, hF⟩ := I.fr
  refine PySem.W.len_K hF I.ok.mod.kin J hm.at_ hm.fn ?_
  refine wpAny_mono (wpAny_call (SlX.run_at (us := [.ref a]) (ws := [.ref a]) F (show Room n X.A.in1 from Room.in1 hr) I.env0.in1 hx I (.cons rfl .nil) q)) (fun w s' z => ?_) fun _ _ x => x
  obtain ⟨z', H', I', rz, i, ei, h0, h1, qz⟩ := z
  subst ei
  obtain ⟨t, e⟩ := (show ∃ t, w = Value.int i t from rz)
  cases e
  exact ⟨⟨h0, h1⟩, .int i, H', I'.tok _, ⟨_, rfl⟩, qz⟩
/-- x op y, both instances of C -/
def rBinOwn (C : Addr) (sp : Sp) (E : XK) : R2 := fun x y H Q => ∃ a dx fs b dy gs, x = V.ref a ∧ y = V.ref b ∧ H a = some (.ins C dx fs) ∧ H b = some (.ins C dy gs) ∧ sp [x, y] H Q E
theorem op_ownBin {op : Operator} (hm : Meth X.K C (PySem.dunder op.info.2) f) (hs : PySem.W.selfFirst X.K C = true) (F : FnR X.prog X.w X.K X.mg X.base CX n f sp) (hr : Room n X.A) (hx : Passes CX X E) : OpR X (binaryOp op) (rBinOwn C sp E) := by
  intro pins s σ H x y v u Q I rx ry h
  obtain ⟨a, dx, fs, b, dy, gs, rfl, rfl, ha, hb, q⟩ := h
  cases (show v = Value.ref a from rx)
  cases (show u = Value.ref b from ry)
  obtain ⟨ox, od, J⟩ := ins_inst I ha
  obtain ⟨ox', od', J'⟩ := ins_inst I hb
  obtain ⟨m, hF⟩ := I.fr
  refine PySem.W.binop_K hF I.ok.mod.kin J J'.type hs hm.at_ hm.fn ?_
  refine wpAny_mono (wpAny_call (run_fnR (us := [.ref a, .ref b]) (vs := [.ref a, .ref b]) F hr hx I (.cons rfl (.cons rfl .nil)) q)) (fun w s' z => ?_) fun _ _ x => x
  obtain ⟨z', H', I', rz, qz⟩ := z
  exact SlX.cmpback rz ⟨z', H', I', rz, qz⟩
theorem op_ownCmp {op : CmpOp} (hop : ∀ a b, compareOp op a b = richCompare op a b) (hm : Meth X.K C (cmpInfo op).2.1 f) (hs : PySem.W.notFirst X.K C (.ref C) = true) (F : FnR X.prog X.w X.K X.mg X.base CX n f sp) (hr : Room n X.A) (hx : Passes CX X E) : OpR X (compareOp op) (rBinOwn C sp E) := by
  intro pins s σ H x y v u Q I rx ry h
  obtain ⟨a, dx, fs, b, dy, gs, rfl, rfl, ha, hb, q⟩ := h
  cases (show v = Value.ref a from rx)
  cases (show u = Value.ref b from ry)
  obtain ⟨ox, od, J⟩ := ins_inst I ha
  obtain ⟨ox', od', J'⟩ := ins_inst I hb
  obtain ⟨m, hF⟩ := I.fr
  rw [hop]
  refine PySem.W.cmp_K (op := op) (tb := .ref C) hr.units0 hF I.ok.mod.kin J J'.type hs hm.at_ hm.fn ?_
  refine wpAny_mono (wpAny_call (run_fnR (us := [.ref a, .ref b]) (vs := [.ref a, .ref b]) F hr hx I (.cons rfl (.cons rfl .nil)) q)) (fun w s' z => ?_) fun _ _ x => x
  obtain ⟨z', H', I', rz, qz⟩ := z
  exact SlX.cmpback rz ⟨z', H', I', rz, qz⟩
end
/-! sum(d.values()) -/
/-- sum(o.values()), a dict with int values -/
def tSumVals (td : TE) : TE := fun σ H Q => td σ H fun x H1 => ∃ (a : Addr) (kvs : List (Key × V)) (is : List Int), x = V.ref a ∧ H1 a = some (.dK kvs) ∧ kvs.map (·.2) = is.map V.int ∧ Q (.int is.sum) H1
section
open PyProof PyProof.Rows PyProof.V PySem.Spec PySem.Calls
theorem preSum_take (is : List Int) : ∀ j, preSum (fun i => is.getD i 0) j = (is.take j).sum
  | 0 => by simp [preSum]
  | j + 1 => by
    rw [preSum, preSum_take is j, List.getD_eq_getElem?_getD, List.take_add_one]
    cases is[j]? <;> simp
variable {X : Cx} {o : Expr} {p pos apos mpos : Pos} {td : TE}
theorem pe_sumVals (hc : X.calm = true) (hg : Gl X "sum") (hm : X.mg "sum" = none) (hd : PE X o td) (hbase : attributeBase o "values" X.env (eval o X.env) = eval o X.env := by rfl) (hline : (apos.endLine == mpos.line) = true := by rfl)
    (hse : starEach [Expr.Call (.Attribute o "values" apos) [] [] mpos] X.env = [(false, eval (Expr.Call (.Attribute o "values" apos) [] [] mpos) X.env)] := by rfl) :
    PE X (.Call (.Name "sum" p) [.Call (.Attribute o "values" apos) [] [] mpos] [] pos) (tSumVals td) := by
  refine ⟨fun pins s σ H Q I h => ?_⟩
  refine wpAny_Call_Name_kw (ld_blt I hg hm (u := .builtin "sum") (by first | rfl | decide +kernel) ?_ (by first | decide +kernel | decide) (by first | decide +kernel | decide))
  rw [hse]
  refine PySem.callWith_builtin1 (wpAny_Call_method0_late hbase hline (thn (hd.run pins s σ H _ I h) fun v s1 ⟨x, H1, I1, r1, a, kvs, is, ex, ha, hv, q⟩ => ?_))
  subst ex
  obtain rfl : v = Value.ref a := r1
  obtain ⟨_, hsys, vs, rel, dof⟩ := dk_of I1.hok ha
  obtain ⟨ep, dat⟩ := dof.dictAt
  have dat' := dat
  obtain ⟨ob, es, ho, ex, hdat, hko, hpr, hnd⟩ := dat'
  refine ⟨"dict", "dict.values", F.plainAttrs_dict, F.slot_dict_values, F.type_dict_values, ⟨ob, ho, ex.1⟩, fun b e => ?_, Calls.callWith_builtin rfl (PySem.evalArgs_none ?_)⟩
  · cases e
    exact ⟨ob, ho, ex.2.1⟩
  refine call_meetsIn F.slot_dict_values ⟨ob, ho, ex.1⟩ F.entry_dict_values (F.args_dict_values_1 _) (meets_dict_values (mixKind X.prog X.w) a hsys) ⟨⟨vs, dof⟩, ?_⟩
  have k1 : ∀ b u, s1.heap.get? b = some u → (s1.heap.push { cls := .type "dict_values", data := .fields #[.ref a] }).get? b = some u := fun b u e => Heap.get?_push_of_some _ e
  have dat1 : (s1.heap.push { cls := .type "dict_values", data := .fields #[.ref a] }).DictAt (mixKind X.prog X.w) a vs ep := dat.keep k1
  have hlv : vs.length = is.length := by
    have e1 := congrArg List.length hv
    rw [List.length_map, List.length_map] at e1
    rw [← e1]
    exact (KV.length rel).symm
  have hval : ∀ (i : Nat) (v : Value), (∃ k, vs[i]? = some (k, v)) → ∃ t, v = Value.int (is.getD i 0) t := fun i v ⟨k, hk⟩ => by
    obtain ⟨x, h1, h2⟩ := KV.at' rel hk
    have e1 : (kvs.map (·.2))[i]? = some x := by rw [List.getElem?_map, h1] <;> rfl
    rw [hv, List.getElem?_map] at e1
    obtain ⟨j, hj, e2⟩ := Option.map_eq_some_iff.mp e1
    subst e2
    obtain ⟨t, e3⟩ := h2
    refine ⟨t, ?_⟩
    rw [e3, List.getD_eq_getElem?_getD, hj] <;> rfl
  have hlt : a < s1.heap.objs.size := Heap.lt_size ho
  have hsz : (s1.heap.push { cls := .type "dict_values", data := .fields #[.ref a] }).objs.size = s1.heap.objs.size + 1 := Heap.size_push _ _
  refine call_sum_walkAnyS (wpAny_pyIter_values (v := s1.heap.objs.size) (d := a) ⟨_, Heap.get?_push_size _ rfl, rfl, rfl⟩ dat1 ?_)
  refine ⟨_, _, _, _, vs.length, _, _, fun i => is.getD i 0, rfl, (Walks.dictValues (knd := mixKind X.prog X.w) (A := X.A.in1) (I.ok.hd hc) (s1.heap.push { cls := .type "dict_values", data := .fields #[.ref a] }).objs.size a (by rw [hsz]; exact Nat.ne_of_lt (Nat.lt_succ_of_lt hlt)) vs ep).toS,
    ⟨⟨_, Heap.get?_push_size _ rfl, rfl, rfl⟩, dat1.keep fun b u e => Heap.get?_push_of_some _ e⟩, fun b hb => ?_, hval, fun s' t' hmv => ?_⟩
  · show b < ((s1.heap.push _).push _).objs.size
    rw [Heap.size_push, Heap.size_push]
    rw [hsz] at hb
    rcases List.mem_cons.mp hb with e | hb
    · rw [e]
      exact Nat.lt_succ_self _
    · have e : b = a := List.mem_singleton.mp hb
      rw [e]
      exact Nat.lt_succ_of_lt (Nat.lt_succ_of_lt hlt)
  · have hk : ∀ b u, s1.heap.get? b = some u → s'.heap.get? b = some u := fun b u e => hmv.heap b u (fun hmem => by
      have e1 : b = (s1.heap.push { cls := .type "dict_values", data := .fields #[.ref a] }).objs.size := List.mem_singleton.mp hmem
      have e2 := Heap.lt_size e
      rw [hsz] at e1
      rw [e1] at e2
      exact absurd e2 (Nat.not_lt.mpr (Nat.le_succ _))) (Heap.get?_push_of_some _ (k1 b u e))
    rw [Moved.eq_with hmv]
    refine ⟨.int _, H1, I1.kept (t' := s'.toks) hk, ⟨t', rfl⟩, ?_⟩
    rw [preSum_take, hlv, List.take_length]
    exact q
end
/-! steps -/
def gSumV (x : V) (H : Hp) (Q : VK) : Prop := ∃ (a : Addr) (kvs : List (Key × V)) (is : List Int), x = V.ref a ∧ H a = some (.dK kvs) ∧ kvs.map (·.2) = is.map V.int ∧ Q (.int is.sum) H
def gIns (C : Addr) (x : V) (H : Hp) (R : Prop) : Prop := ∃ a dx fs, x = V.ref a ∧ H a = some (.ins C dx fs) ∧ R
section
variable {l : List Asn} {H : Hp} {σ : L2.St} {td ta : TE} {Q : VK} {d p C : Addr} {m : List (Str × Int)} {g : Str → Int} {sp : Sp} {E : XK} {dvs : List V} {e : Nat}
theorem r_sumVals (q : td σ H fun x H1 => gSumV x H1 Q) : tSumVals td σ H Q := q
theorem sum_mp (S : Sep l H) (hi : l[e]? = some (At d (.dK (mp m)))) (q : Q (.int (m.map (·.2)).sum) H) : gSumV (.ref d) H Q := ⟨d, mp m, m.map (·.2), rfl, S.at hi, by rw [List.map_map, List.map_map]; rfl, q⟩
theorem r_prop (q : ta σ H fun x H1 => gIns C x H1 (sp (x :: dvs) H1 Q E)) : tProp C sp dvs E ta σ H Q := by
  have e : (fun (x : V) (H1 : Hp) => ∃ a dx fs, x = V.ref a ∧ H1 a = some (.ins C dx fs) ∧ sp (V.ref a :: dvs) H1 Q E) = fun x H1 => gIns C x H1 (sp (x :: dvs) H1 Q E) :=
    funext fun x => funext fun H1 => propext ⟨fun ⟨a, dx, fs, e, h, q⟩ => ⟨a, dx, fs, e, h, e ▸ q⟩, fun ⟨a, dx, fs, e, h, q⟩ => ⟨a, dx, fs, e, h, e ▸ q⟩⟩
  show ta σ H (fun (x : V) (H1 : Hp) => ∃ a dx fs, x = V.ref a ∧ H1 a = some (.ins C dx fs) ∧ sp (V.ref a :: dvs) H1 Q E)
  rw [e]; exact q
theorem ins_co (S : Sep l H) (hi : l[e]? = some (Co p C g)) : ∃ dx fs, H p = some (.ins C dx fs) := by
  obtain ⟨d, m, _, _, S1⟩ := co_open (S.pick hi)
  obtain ⟨dx, h⟩ := ob_at S1 (e := 0) rfl
  exact ⟨dx, _, h⟩
theorem gi_co {R : Prop} (S : Sep l H) (hi : l[e]? = some (Co p C g)) (q : R) : gIns C (.ref p) H R := by
  obtain ⟨dx, fs, h⟩ := ins_co S hi
  exact ⟨p, dx, fs, rfl, h, q⟩
theorem s_co {i v : V} {N : Hp → Prop} (S : Sep l H) (hi : l[e]? = some (Co p C g)) (q : sp [.ref p, i, v] H (fun _ H' => N H') E) : rSetOwn C sp E (.ref p) i v H N := by
  obtain ⟨dx, fs, h⟩ := ins_co S hi
  exact ⟨p, dx, fs, rfl, h, q⟩
end
local macro_rules | `(tactic| walk_at "v1") => `(tactic| (first
  | with_reducible refine r_sumVals ?_
  | with_reducible refine r_prop ?_
  | ((with_reducible refine' sum_mp (by assumption) ?hi ?_); (case hi => walk_at "has"))
  | ((with_reducible refine' gi_co (by assumption) ?hi ?_); (case hi => walk_at "has"))
  | ((with_reducible refine' s_co (by assumption) ?hi ?_); (case hi => walk_at "has"))))

/-! dicts of words and numbers compared, listed, joined; own operators walked -/
/-! ### d == e -/
def mpEq (m1 m2 : List (Str × Int)) : Bool := (m1.length == m2.length) && m1.all fun x => decide (x.1 ∈ keys m2) && (x.2 == num m2 x.1)
theorem hits_mp {A : Around} {s : Shared} {m2 : List (Str × Int)} {vb : List (Key × Value)} (rb : KV (mp m2) vb) : ∀ (m1 : List (Str × Int)) {va : List (Key × Value)}, KV (mp m1) va →
    PySem.W.KeqHits A s vb va (m1.all fun x => decide (x.1 ∈ keys m2) && (x.2 == num m2 x.1))
  | [], va, ra => by
    unfold KV at ra
    cases ra
    exact .nil
  | x :: m1, va, ra => by
    unfold KV at ra
    cases ra with
    | @cons p q ps qs h t =>
      obtain ⟨h1, h2⟩ := h
      obtain ⟨k, v⟩ := q
      have h1' : (Sum.inr x.1 : Key) = k := h1
      subst h1'
      have ih := hits_mp (A := A) (s := s) rb m1 t
      have rr : RelO (valV (mp m2) (Sum.inr x.1 : Key)) (valueAt vb (Sum.inr x.1)) := rb.val (Sum.inr x.1)
      rw [val_mp] at rr
      show PySem.W.KeqHits A s vb ((Sum.inr x.1, v) :: qs) ((decide (x.1 ∈ keys m2) && (x.2 == num m2 x.1)) && m1.all fun x => decide (x.1 ∈ keys m2) && (x.2 == num m2 x.1))
      by_cases hk : x.1 ∈ keys m2
      · rw [if_pos hk] at rr
        obtain ⟨y, hy, ry⟩ := rr.some_of
        obtain ⟨t1, e1⟩ := (show ∃ t, v = Value.int x.2 t from h2)
        obtain ⟨t2, e2⟩ := (show ∃ t, y = Value.int (num m2 x.1) t from ry)
        subst e1; subst e2
        rw [decide_eq_true hk, Bool.true_and]
        exact .hit hy (SeqAt.EqAt.int_int _ _ _ _) ih
      · rw [if_neg hk] at rr
        rw [decide_eq_false hk, Bool.false_and, Bool.false_and]
        refine .miss ?_
        cases hv : valueAt vb (Sum.inr x.1) with
        | none => rfl
        | some y => rw [hv] at rr; exact rr.elim
section
variable {X : Cx}
def rEqMp (neg : Bool) : R2 := fun x y H Q => ∃ a b m1 m2, x = .ref a ∧ y = .ref b ∧ H a = some (.dK (mp m1)) ∧ H b = some (.dK (mp m2)) ∧ Q (.bl (if neg then !(mpEq m1 m2) else mpEq m1 m2)) H
theorem op_eqMp (hu : X.A.units < cLine) : OpR X (compareOp .Eq) (rEqMp false) := by
  intro pins s σ H x y v u Q I rx ry h
  obtain ⟨a, b, m1, m2, rfl, rfl, ea, eb, q⟩ := h
  obtain rfl : v = Value.ref a := rx
  obtain rfl : u = Value.ref b := ry
  obtain ⟨_, ya, va, ra, da⟩ := (show ObjOk X.prog X.w H s.heap a (.dK (mp m1)) from I.hok a _ ea)
  obtain ⟨_, yb, vb, rb, db⟩ := (show ObjOk X.prog X.w H s.heap b (.dK (mp m2)) from I.hok b _ eb)
  have hl1 : va.length = m1.length := by rw [← ra.length, List.length_map]
  have hl2 : vb.length = m2.length := by rw [← rb.length, List.length_map]
  exact PySem.W.keq_eq (knd := mixKind X.prog X.w) ya yb da db hu (fun _ => hits_mp rb m1 ra) (fin_bl I q (by rw [hl1, hl2]; rfl))
theorem op_neMp (hu : X.A.units < cLine) : OpR X (compareOp .NotEq) (rEqMp true) := by
  intro pins s σ H x y v u Q I rx ry h
  obtain ⟨a, b, m1, m2, rfl, rfl, ea, eb, q⟩ := h
  obtain rfl : v = Value.ref a := rx
  obtain rfl : u = Value.ref b := ry
  obtain ⟨_, ya, va, ra, da⟩ := (show ObjOk X.prog X.w H s.heap a (.dK (mp m1)) from I.hok a _ ea)
  obtain ⟨_, yb, vb, rb, db⟩ := (show ObjOk X.prog X.w H s.heap b (.dK (mp m2)) from I.hok b _ eb)
  have hl1 : va.length = m1.length := by rw [← ra.length, List.length_map]
  have hl2 : vb.length = m2.length := by rw [← rb.length, List.length_map]
  exact PySem.W.keq_ne (knd := mixKind X.prog X.w) ya yb da db hu (fun _ => hits_mp rb m1 ra) (fin_bl I q (by rw [hl1, hl2]; rfl))
end
theorem good_val {m : List (Str × Int)} (h : Good m) {w : Str} (hw : w ∈ keys m) : num m w ≠ 0 := by
  have hx := key_num h.1 hw
  exact (h.2.1 _ hx).1
theorem good_mem {m : List (Str × Int)} (h : Good m) {w : Str} : w ∈ keys m ↔ num m w ≠ 0 :=
  ⟨good_val h, fun z => Classical.byContradiction fun y => z (num_none y)⟩
theorem good_eq {m1 m2 : List (Str × Int)} (h1 : Good m1) (h2 : Good m2) : mpEq m1 m2 = true ↔ num m1 = num m2 := by
  constructor
  · intro hh
    unfold mpEq at hh
    simp only [Bool.and_eq_true, beq_iff_eq, List.all_eq_true, decide_eq_true_eq] at hh
    obtain ⟨hl, ha⟩ := hh
    funext w
    have hs : ∀ w, w ∈ keys m2 → w ∈ keys m1 := by
      intro w hw
      refine Classical.byContradiction fun z => ?_
      have hn : (w :: keys m1).Nodup := List.nodup_cons.2 ⟨z, h1.1⟩
      have := nodup_le hn (m := keys m2) fun x hx => by
        rcases List.mem_cons.1 hx with rfl | hx
        · exact hw
        · obtain ⟨y, hy, ey⟩ := List.mem_map.1 hx
          rw [← ey]
          exact (ha y hy).1
      unfold keys at this
      simp only [List.length_cons, List.length_map] at this
      omega
    by_cases hw : w ∈ keys m1
    · obtain ⟨y, hy, ey⟩ := List.mem_map.1 hw
      rw [← show y.1 = w from ey, num_at h1.1 hy]
      exact (ha y hy).2
    · rw [num_none hw, num_none fun z => hw (hs w z)]
  · intro e
    have hk : ∀ w, w ∈ keys m1 ↔ w ∈ keys m2 := fun w => by rw [good_mem h1, good_mem h2, e]
    have hl : m1.length = m2.length := by
      have a := nodup_le h1.1 (m := keys m2) fun x hx => (hk x).1 hx
      have b := nodup_le h2.1 (m := keys m1) fun x hx => (hk x).2 hx
      unfold keys at a b
      rw [List.length_map, List.length_map] at a b
      omega
    unfold mpEq
    rw [hl, beq_self_eq_true, Bool.true_and, List.all_eq_true]
    intro x hx
    rw [decide_eq_true ((hk x.1).1 (List.mem_map_of_mem hx)), Bool.true_and, ← e, num_at h1.1 hx]
    exact beq_self_eq_true _
/-! ### list(d) -/
def gListD (xs : List V) (H : Hp) (Q : VK) : Prop := ∃ (a : Addr) (kvs : List (Key × V)), xs = [.ref a] ∧ Rd H a (.dK kvs) ∧ ∀ p, H p = Option.none → Q (.ref p) (upd H p (.lst (kvs.map fun kv => kV kv.1)))
theorem call_gListD {X : Cx} (hc : X.calm = true) : CallR X (.type "list") gListD := call_listD hc
section
variable {l : List Asn} {H : Hp} {d : Addr} {m : List (Str × Int)} {e : Nat} {Q : VK} {a b : Addr} {m1 m2 : List (Str × Int)} {e2 : Nat}
theorem kv_mp (m : List (Str × Int)) : ((mp m).map fun kv => kV kv.1) = (keys m).map V.str := by
  unfold keys
  rw [List.map_map, List.map_map]
  exact List.map_congr_left fun _ _ => rfl
theorem ld_mp (S : Sep l H) (hi : l[e]? = some (At d (.dK (mp m)))) (k : ∀ p H', Sep (At p (.lst ((keys m).map V.str)) :: l) H' → Q (.ref p) H') : gListD [.ref d] H Q :=
  ⟨d, mp m, rfl, .inl (S.at hi), fun p hp => by rw [kv_mp]; exact k p _ (S.new hp)⟩
theorem eq_mp (S : Sep l H) (hi : l[e]? = some (At a (.dK (mp m1)))) (hj : l[e2]? = some (At b (.dK (mp m2)))) (q : Q (.bl (mpEq m1 m2)) H) : rEqMp false (.ref a) (.ref b) H Q :=
  ⟨a, b, m1, m2, rfl, rfl, S.at hi, S.at hj, q⟩
theorem ne_mp (S : Sep l H) (hi : l[e]? = some (At a (.dK (mp m1)))) (hj : l[e2]? = some (At b (.dK (mp m2)))) (q : Q (.bl (!(mpEq m1 m2))) H) : rEqMp true (.ref a) (.ref b) H Q :=
  ⟨a, b, m1, m2, rfl, rfl, S.at hi, S.at hj, q⟩
end
local macro_rules | `(tactic| walk_at "v1") => `(tactic| (first
  | ((with_reducible refine' ld_mp (by assumption) ?hi ?_); (case hi => walk_at "has"); intro _ _ _)
  | ((with_reducible refine' eq_mp (by assumption) ?hi ?hj ?_); (case hi => walk_at "has"); (case hj => walk_at "has"))
  | ((with_reducible refine' ne_mp (by assumption) ?hi ?hj ?_); (case hi => walk_at "has"); (case hj => walk_at "has"))))
/-! ### a op b, own -/
section
variable {l : List Asn} {H : Hp} {C p q : Addr} {g h : Str → Int} {sp : Sp} {E : XK} {Q : VK} {e e2 : Nat}
theorem b_co (S : Sep l H) (hi : l[e]? = some (Co p C g)) (hj : l[e2]? = some (Co q C h)) (k : sp [.ref p, .ref q] H Q E) : rBinOwn C sp E (.ref p) (.ref q) H Q := by
  obtain ⟨dx, fs, h1⟩ := ins_co S hi
  obtain ⟨dy, gs, h2⟩ := ins_co S hj
  exact ⟨p, dx, fs, q, dy, gs, rfl, rfl, h1, h2, k⟩
/-- isinstance of counts -/
theorem i_co {D : Addr} {b : Bool} {K : PySem.W.Frag} {ns : List Str} (S : Sep l H) (hi : l[e]? = some (Co p C g)) (hC : Kl K C ns) (ki : Ki K C) (hk : PySem.W.kitOne K (.ref C) (.ref D) = some b) (k : Q (.bl b) H) : gIsi K [.ref p, .ref D] H Q := by
  obtain ⟨d, m, _, _, S1⟩ := co_open (S.pick hi)
  exact i_ob S1 (e := 0) rfl hC ki hk k
theorem i_coT {T : String} {b : Bool} {K : PySem.W.Frag} {ns : List Str} (S : Sep l H) (hi : l[e]? = some (Co p C g)) (hC : Kl K C ns) (ki : Ki K C) (hk : PySem.W.kitOne K (.ref C) (.type T) = some b) (k : Q (.bl b) H) : gIsi K [.ref p, .ty T] H Q := by
  obtain ⟨d, m, _, _, S1⟩ := co_open (S.pick hi)
  exact i_obT S1 (e := 0) rfl hC ki hk k
end
local macro_rules | `(tactic| walk_at "v1") => `(tactic| (first
  | ((with_reducible refine' b_co (by assumption) ?hi ?hj ?_); (case hi => walk_at "has"); (case hj => walk_at "has"))
  | ((with_reducible refine' i_co (by assumption) ?hi ?hC ?ki ?hk ?_); (case hi => walk_at "has"); (case hC => assumption); (case ki => assumption); (case hk => assumption))))

/-! more own operators of instances with a dict: -o, abs(o), n * o, o op= x, x in o, o[i], truth, != by ==, repr -/
section
open PyProof.Rows
section
variable {X : Cx} {CX : CXT} {n : Nat} {f C : Addr} {sp : Sp} {E : XK}
/-- a one-place own method -/
def rUnOwn (C : Addr) (sp : Sp) (E : XK) : V → Hp → VK → Prop := fun x H Q => ∃ a dx fs, x = V.ref a ∧ H a = some (.ins C dx fs) ∧ sp [V.ref a] H Q E
theorem un_ownNeg (hm : Meth X.K C (Str.ofString "__neg__") f) (F : FnR X.prog X.w X.K X.mg X.base CX n f sp) (hr : Room n X.A) (hx : Passes CX X E) : UnR X (unaryOp .USub) (rUnOwn C sp E) := by
  intro pins s σ H x v Q I rx h
  obtain ⟨a, dx, fs, rfl, ha, q⟩ := h
  cases (show v = Value.ref a from rx)
  obtain ⟨ox, od, J⟩ := ins_inst I ha
  obtain ⟨m, hF⟩ := I.fr
  exact PySem.W.ksp_neg hF I.ok.mod.kin J hm.at_ hm.fn (wpAny_call (run_fnR (us := [.ref a]) (vs := [.ref a]) F hr hx I (.cons rfl .nil) q))
/-- abs(o) -/
def rAbsOwn (C : Addr) (sp : Sp) (E : XK) : List V → Hp → VK → Prop := fun xs H Q => ∃ a dx fs, xs = [V.ref a] ∧ H a = some (.ins C dx fs) ∧ sp [V.ref a] H Q E
theorem call_ownAbs (hm : Meth X.K C (Str.ofString "__abs__") f) (F : FnR X.prog X.w X.K X.mg X.base CX n f sp) (hr : Room (n + 1) X.A) (hx : Passes CX X E) : CallR X (.builtin "abs") (rAbsOwn C sp E) := by
  intro pins s σ H xs us Q I r h
  obtain ⟨a, dx, fs, rfl, ha, q⟩ := h
  obtain ⟨u, rfl, ru⟩ := r.one
  cases (show u = Value.ref a from ru)
  obtain ⟨ox, od, J⟩ := ins_inst I ha
  obtain ⟨m, hF⟩ := I.fr
  refine Calls.call_function_entry PyProof.Rows.kind_abs PyProof.Rows.plain_abs PyProof.Rows.entry_abs (PyProof.Rows.args_abs _) ?_
  unfold Builtin.«abs»
  refine wpAny_bind (m := oneArg "abs" _) (wpAny_pure ?_)
  refine wpAny_bind (m := callSpecial? (.ref a) (Str.ofString "__abs__")) (PySem.W.special_fn (I.ok.mod.kin.keeps hF.keep) J hm.at_ (beq_iff_eq.mp hm.fn) ?_)
  refine wpAny_mono (wpAny_call (SlX.run_at (us := [.ref a]) (ws := [.ref a]) F (show Room n X.A.in1 from Room.in1 hr) I.env0.in1 hx I (.cons rfl .nil) q)) (fun w s' z => ?_) fun _ _ x => x
  exact wpAny_pure ⟨_, rfl, z⟩
/-- o op= y -/
def rInpOwn (C : Addr) (sp : Sp) (E : XK) : TIp := fun x y H Q => ∃ a dx fs, x = V.ref a ∧ H a = some (.ins C dx fs) ∧ sp [V.ref a, y] H Q E
theorem ip_own {op : Operator} (hm : Meth X.K C (PySem.dunderI op.info.2) f) (hs : PySem.W.selfFirst X.K C = true) (F : FnR X.prog X.w X.K X.mg X.base CX n f sp) (hr : Room n X.A) (hx : Passes CX X E) : PIp X op (rInpOwn C sp E) := by
  intro pins s σ H x y v u Q I rx ry h
  obtain ⟨a, dx, fs, rfl, ha, q⟩ := h
  cases (show v = Value.ref a from rx)
  obtain ⟨ox, od, J⟩ := ins_inst I ha
  obtain ⟨m, hF⟩ := I.fr
  refine PySem.W.ksp_inplace hF I.ok.mod.kin J hs hm.at_ hm.fn ?_
  refine wpAny_mono (wpAny_call (run_fnR (us := [.ref a, u]) (vs := [.ref a, y]) F hr hx I (.cons rfl (.cons ry .nil)) q)) (fun w s' z => ?_) fun _ _ x => x
  obtain ⟨z', H', I', rz, qz⟩ := z
  exact SlX.cmpback rz ⟨z', H', I', rz, qz⟩
/-- x in o -/
def rInOwn (neg : Bool) (C : Addr) (sp : Sp) (E : XK) : R2 := fun x y H Q => ∃ a dx fs, y = V.ref a ∧ H a = some (.ins C dx fs) ∧ sp [V.ref a, x] H (fun z H' => ∃ b : Bool, z = .bl b ∧ Q (.bl (if neg then !b else b)) H') E
theorem op_ownIn (hm : Meth X.K C (Str.ofString "__contains__") f) (F : FnR X.prog X.w X.K X.mg X.base CX n f sp) (hr : Room n X.A) (hx : Passes CX X E) : OpR X (compareOp .In) (rInOwn false C sp E) := by
  intro pins s σ H x y v u Q I rx ry h
  obtain ⟨a, dx, fs, rfl, ha, q⟩ := h
  cases (show u = Value.ref a from ry)
  obtain ⟨ox, od, J⟩ := ins_inst I ha
  obtain ⟨m, hF⟩ := I.fr
  refine PySem.W.in_K hF I.ok.mod.kin J hm.at_ hm.fn ?_
  refine wpAny_mono (wpAny_call (run_fnR (us := [.ref a, v]) (vs := [.ref a, x]) F hr hx I (.cons rfl (.cons rx .nil)) q)) (fun w s' z => ?_) fun _ _ x => x
  obtain ⟨z', H', I', rz, b, ez, qz⟩ := z
  subst ez
  cases (show w = Value.bool b from rz)
  exact wpAny_truthy_bool ⟨.bl b, H', I', rfl, qz⟩
/-- truth of o by __bool__ -/
def rTruOwn (C : Addr) (sp : Sp) (E : XK) : V → Hp → (Bool → Hp → Prop) → Prop := fun x H Q => ∃ a dx fs, x = V.ref a ∧ H a = some (.ins C dx fs) ∧ sp [V.ref a] H (fun z H' => ∃ b : Bool, z = .bl b ∧ Q b H') E
theorem tru_own (hm : Meth X.K C (Str.ofString "__bool__") f) (F : FnR X.prog X.w X.K X.mg X.base CX n f sp) (hr : Room n X.A) (hx : Passes CX X E) : TruR X (rTruOwn C sp E) := by
  intro pins s σ H x v Q I rx h
  obtain ⟨a, dx, fs, rfl, ha, q⟩ := h
  cases (show v = Value.ref a from rx)
  obtain ⟨ox, od, J⟩ := ins_inst I ha
  obtain ⟨m, hF⟩ := I.fr
  refine PySem.W.truthy_K hF I.ok.mod.kin J hm.at_ hm.fn ?_
  refine wpAny_mono (wpAny_call (run_fnR (us := [.ref a]) (vs := [.ref a]) F hr hx I (.cons rfl .nil) q)) (fun w s' z => ?_) fun _ _ x => x
  obtain ⟨z', H', I', rz, b, ez, qz⟩ := z
  subst ez
  cases (show w = Value.bool b from rz)
  exact ⟨H', I', qz⟩
/-- o[i] -/
theorem pe_ixOwn {a b : Expr} {ta tb : TE} {pos : Pos} (hm : Meth X.K C (Str.ofString "__getitem__") f) (hfn : PySem.W.fnIn X.K f = true) (F : FnR X.prog X.w X.K X.mg X.base CX n f sp) (hr : Room (n + 1) X.A) (hx : Passes CX X E) (ha : PE X a ta) (hb : PE X b tb)
    (hsl : ∀ o i, subscripted b true o i = runValue (.builtin "lifetime.subscript" ⟨[o, i], []⟩)) :
    PE X (.Subscript a b pos) (tOp (fun x y H Q => ∃ a dx fs, x = V.ref a ∧ H a = some (.ins C dx fs) ∧ sp [V.ref a, y] H Q E) ta tb) := by
  refine ⟨fun pins s σ H Q I h => ?_⟩
  refine Subscript_ (binT ha hb I h fun v u s2 x y H2 I2 rx ry q => ?_)
  obtain ⟨a', dx, fs, rfl, ha', q⟩ := q
  cases (show v = Value.ref a' from rx)
  obtain ⟨ox, od, J⟩ := ins_inst I2 ha'
  obtain ⟨m, hF⟩ := I2.fr
  refine PySem.W.sub_K hF I2.ok.mod.kin J hm.at_ hfn hm.fn ?_ (hsl _ _)
  exact wpAny_call (SlX.run_at (us := [.ref a', u]) (ws := [.ref a', y]) F (show Room n X.A.in1 from Room.in1 hr) I2.env0.in1 hx I2 (.cons rfl (.cons ry .nil)) q)
/-- o != p by an own == -/
theorem ifBound_objNe {M : Model} {A : Around} {E : Value → Shared → Prop} {s : Shared} {K : PySem.W.Frag} {x C : Addr} {ox : Obj} {od : Option Obj} {args : List Value} {Q : Option Value → Shared → Prop} (X : K.In s.heap) (I : PySem.W.InstAt s.heap x ox C od) (hs : PySem.W.findIn K (.ref C) "__ne__" = some (some (.builtin "object.__ne__")))
    (h : wpAny M A (call (.builtin "object.__ne__") (.ref x :: args)) (fun v => Q (some v)) E s) : wpAny M A (callSpecialIfBound? (.ref x) "__ne__" args) Q E s := by
  simp only [callSpecialIfBound?, bindSpecialIfBound?]
  refine wpAny_holding (wpAny_bind (wpAny_bind (wpAny_bind (I.type.here ((PySem.W.looks_findIn X hs).here ?_)))))
  refine wpAny_bind (wpAny_askSetting (wpAny_ite ?_))
  have fin : wpAny M A (call (.builtin "object.__ne__") ([.ref x] ++ args) >>= fun v => pure (some v)) Q E s := wpAny_bind (wpAny_mono h (fun v s' h' => wpAny_pure h') fun _ _ h' => h')
  split
  · exact wpAny_bind (wpAny_of_eq (F.cmp_object.ne.bind _) (wpAny_pure (by exact fin)))
  · exact wpAny_tryCatch (wpAny_bind (wpAny_of_eq (F.cmp_object.ne.bind _) (wpAny_pure (by exact fin))))
/-- o != p, both of C -/
def rNeOwn (C : Addr) (sp : Sp) (E : XK) : R2 := fun x y H Q => ∃ a dx fs b dy gs, x = V.ref a ∧ y = V.ref b ∧ H a = some (.ins C dx fs) ∧ H b = some (.ins C dy gs) ∧ sp [x, y] H (fun z H' => ∃ c : Bool, z = .bl c ∧ Q (.bl (!c)) H') E
/-- o != p, both of C, with an own == and none for != -/
theorem op_ownNe (hne : PySem.W.findIn X.K (.ref C) "__ne__" = some (some (.builtin "object.__ne__"))) (hob : PySem.W.mroIn X.K C (.type "object") = some true) (hm : Meth X.K C (Str.ofString "__eq__") f) (hs : PySem.W.notFirst X.K C (.ref C) = true) (F : FnR X.prog X.w X.K X.mg X.base CX n f sp) (hr : Room (n + 1) X.A) (hu : X.A.units + 64 < cLine) (hx : Passes CX X E) :
    OpR X (compareOp .NotEq) (rNeOwn C sp E) := by
  intro pins s σ H x y v u Q I rx ry h
  obtain ⟨a, dx, fs, b, dy, gs, rfl, rfl, ha, hb, q⟩ := h
  cases (show v = Value.ref a from rx)
  cases (show u = Value.ref b from ry)
  obtain ⟨ox, od, J⟩ := ins_inst I ha
  obtain ⟨ox', od', J'⟩ := ins_inst I hb
  obtain ⟨m, hF⟩ := I.fr
  have XK := I.ok.mod.kin.keeps hF.keep
  have entry : wpAny (model X.prog X.w) X.A.in1 (Builtin.«object.__ne__» ⟨[.ref a, .ref b], []⟩) (fun r s' => ∃ w, r = .done (.ret w) ∧ (w ≠ .notImplemented ∧ EP X pins σ Q w s')) X.xe s := by
    unfold Builtin.«object.__ne__»
    repeat (first
      | with_reducible refine wpAny_cRoomFor (show X.A.in1.units < cLine by show X.A.units + 1 < cLine; omega) ?_
      | (refine wpAny_bind (m := callSpecialIfBound? (.ref a) (Str.ofString "__eq__") [.ref b]) (PySem.W.ifBound_K XK J hm.at_ hm.fn
          (wpAny_mono (wpAny_call (SlX.run_at (us := [.ref a, .ref b]) (ws := [.ref a, .ref b]) F (show Room n X.A.in1 from Room.in1 hr) I.env0.in1 hx I (.cons rfl (.cons rfl .nil)) q)) (fun w s' z => by
            obtain ⟨z', H', I', rz, c, ez, qz⟩ := z
            subst ez
            cases (show w = Value.bool c from rz)
            repeat (first | exact ⟨_, rfl, nofun, .bl (!c), H', I', rfl, qz⟩ | exact wpAny_pure ⟨_, rfl, nofun, .bl (!c), H', I', rfl, qz⟩ | (refine wpAny_bind (m := truthy (.bool _)) (wpAny_truthy_bool ?_)) | wp_step)) fun _ _ e => e)))
      | wp_step)
  have one : wpAny (model X.prog X.w) X.A (tryCompare (.ref a) "__ne__" (.ref b)) (fun r s' => ∃ w, r = some w ∧ EP X pins σ Q w s') X.xe s := by
    unfold tryCompare
    refine wpAny_bind (ifBound_objNe XK J hne ?_)
    refine wpAny_call (codeAny_call_builtin PySem.F.cmp_object.ne.plain PySem.F.cmpEntry_ne (PySem.W.check_slot PySem.F.cmpKind_ne PySem.F.cmpSplit_ne (J.type.andThen (PySem.W.looks_mroIn XK hob)) (PySem.F.cmpArgs_ne _ _) (wpAny_mono entry (fun r s' z => ?_) fun _ _ e => e)))
    obtain ⟨w, rfl, hw, ep⟩ := z
    cases w <;> first | exact (hw rfl).elim | exact wpAny_pure ⟨_, rfl, ep⟩
  show wpAny _ _ (richCompare .NotEq (.ref a) (.ref b)) _ _ _
  unfold richCompare
  simp only [oneThing_ref]
  refine wpAny_holding (wpAny_bind (wpAny_cRoomFor (by omega) ?_))
  refine wpAny_bind (J.type.here (wpAny_bind (J'.type.here ?_)))
  rw [show (Value.ref C != Value.ref C) = false from by simp]
  simp only [Bool.false_eq_true, if_false]
  refine wpAny_bind (wpAny_pure ?_)
  simp only [Bool.false_eq_true, if_false]
  refine wpAny_bind (m := tryCompare (.ref a) _ (.ref b)) (wpAny_mono one (fun r s' z => ?_) fun _ _ e => e)
  obtain ⟨w, rfl, ep⟩ := z
  exact wpAny_pure ep
end

end
/-! how many words; two counts beside each other; steps of the own operators -/
/-- at most n words with a number -/
def Sz (g : Str → Int) (n : Nat) : Prop := ∃ ws : List Str, ws.length ≤ n ∧ ∀ w, g w ≠ 0 → w ∈ ws
theorem Sz.le {g : Str → Int} {n m : Nat} (h : Sz g n) (k : n ≤ m) : Sz g m := h.imp fun _ h => ⟨Nat.le_trans h.1 k, h.2⟩
theorem Sz.num {m : List (Str × Int)} : Sz (Y.num m) m.length := ⟨keys m, by unfold keys; rw [List.length_map]; exact Nat.le_refl _, fun w h => Classical.byContradiction fun z => h (num_none z)⟩
theorem Sz.of {m : List (Str × Int)} {g : Str → Int} {n : Nat} (e : Y.num m = g) (h : m.length ≤ n) : Sz g n := e ▸ Sz.num.le h
theorem Sz.zero : Sz (fun _ => 0) 0 := ⟨[], Nat.le_refl _, fun _ h => (h rfl).elim⟩
theorem Sz.map {g : Str → Int} {n : Nat} (f : Str → Int) (h : Sz g n) (k : ∀ w, g w = 0 → f w = 0) : Sz f n := h.imp fun _ h => ⟨h.1, fun w z => h.2 w fun y => z (k w y)⟩
theorem Sz.two {g h : Str → Int} {n m : Nat} (f : Str → Int) (a : Sz g n) (b : Sz h m) (k : ∀ w, g w = 0 → h w = 0 → f w = 0) : Sz f (n + m) := by
  obtain ⟨ws, h1, h2⟩ := a
  obtain ⟨us, h3, h4⟩ := b
  refine ⟨ws ++ us, by rw [List.length_append]; omega, fun w z => ?_⟩
  by_cases e : g w = 0
  · by_cases e2 : h w = 0
    · exact (z (k w e e2)).elim
    · exact List.mem_append_right _ (h4 w e2)
  · exact List.mem_append_left _ (h2 w e)
theorem Sz.put {g : Str → Int} {n : Nat} (h : Sz g n) (v : Str) (x : Int) : Sz (fun w => if w = v then x else g w) (n + 1) := by
  obtain ⟨ws, h1, h2⟩ := h
  refine ⟨v :: ws, by rw [List.length_cons]; omega, fun w z => ?_⟩
  by_cases e : w = v
  · rw [e]; exact List.mem_cons_self
  · have z : (if w = v then x else g w) ≠ 0 := z
    rw [if_neg e] at z
    exact List.mem_cons_of_mem _ (h2 w z)
theorem Sz.psum (ps : List (Str × Int)) : Sz (Y.psum ps) ps.length := by
  refine ⟨keys ps, by unfold keys; rw [List.length_map]; exact Nat.le_refl _, fun w h => ?_⟩
  induction ps with
  | nil => exact (h rfl).elim
  | cons x ps ih =>
    show w ∈ x.1 :: keys ps
    by_cases e : x.1 = w
    · rw [e]; exact List.mem_cons_self
    · refine List.mem_cons_of_mem _ (ih ?_)
      intro z
      refine h ?_
      show (if x.1 = w then x.2 else 0) + Y.psum ps w = 0
      rw [if_neg e, z]; rfl
theorem Good.sz {m : List (Str × Int)} {g : Str → Int} {n : Nat} (h : Good m) (e : Y.num m = g) (k : Sz g n) : m.length ≤ n := by
  obtain ⟨ws, h1, h2⟩ := k
  have := nodup_le h.1 (m := ws) fun w hw => h2 w (by rw [← e]; exact good_val h hw)
  unfold keys at this
  rw [List.length_map] at this
  omega
/-! ### del d[k] -/
def mdel (m : List (Str × Int)) (w : Str) : List (Str × Int) := m.filter fun x => decide (x.1 ≠ w)
theorem num_del (m : List (Str × Int)) (w v : Str) : num (mdel m w) v = if v = w then 0 else num m v := by
  induction m with
  | nil => unfold mdel; simp [num]
  | cons x m ih =>
    unfold mdel at ih ⊢
    rw [List.filter_cons]
    by_cases h : x.1 = w
    · rw [if_neg (by simp [h]), ih]
      show (if v = w then 0 else num m v) = if v = w then 0 else (if x.1 = v then x.2 else num m v)
      by_cases e : v = w
      · rw [if_pos e, if_pos e]
      · rw [if_neg e, if_neg e, if_neg (fun z => e (z.symm.trans h))]
    · rw [if_pos (decide_eq_true h)]
      show (if x.1 = v then x.2 else num _ v) = if v = w then 0 else (if x.1 = v then x.2 else num m v)
      rw [ih]
      by_cases e : v = w
      · rw [if_pos e, if_pos e, if_neg (fun z => h (z.trans e))]
      · rw [if_neg e, if_neg e]
theorem drop_mp (m : List (Str × Int)) (w : Str) : dropK (mp m) (Sum.inr w : Key) = mp (mdel m w) := by
  unfold dropK mdel
  induction m with
  | nil => rfl
  | cons x m ih =>
    show List.filter _ ((Sum.inr x.1, V.int x.2) :: mp m) = _
    rw [List.filter_cons, List.filter_cons, ih]
    by_cases h : x.1 = w
    · rw [if_neg (by simp [h]), if_neg (by simp [h])]
    · rw [if_pos (by simp [h]), if_pos (decide_eq_true h)]; rfl
theorem good_del {m : List (Str × Int)} (h : Good m) (w : Str) : Good (mdel m w) :=
  ⟨List.Nodup.sublist (List.Sublist.map _ List.filter_sublist) h.1, fun x hx => h.2.1 x (List.mem_filter.1 hx).1, Nat.le_trans (List.length_filter_le _ _) h.2.2⟩
section
variable {l : List Asn} {H : Hp} {σ : L2.St} {d : Addr} {m : List (Str × Int)} {w : Str} {e : Nat} {td ty : TE} {nx bk ct : L2.St → Hp → Prop} {rt : VK}
def gDDel (x y : V) (H : Hp) (R : Hp → Prop) : Prop := ∃ a kvs k, x = .ref a ∧ H a = some (.dK kvs) ∧ y = kV k ∧ (valV kvs k).isSome = true ∧ R (upd H a (.dK (dropK kvs k)))
theorem r_ddel (q : td σ H fun x H1 => ty σ H1 fun y H2 => gDDel x y H2 fun H3 => nx σ H3) : sDDel td ty ⟨nx, rt, bk, ct⟩ σ H := q
theorem dl_mp {R : Hp → Prop} (S : Sep l H) (hi : l[e]? = some (At d (.dK (mp m)))) (hw : w ∈ keys m) (k : ∀ H', Sep (l.set e (At d (.dK (mp (mdel m w))))) H' → R H') : gDDel (.ref d) (.str w) H R :=
  ⟨d, mp m, Sum.inr w, rfl, S.at hi, rfl, by rw [val_mp, if_pos hw]; rfl, by rw [drop_mp]; exact k _ (S.upd hi fun _ z => nomatch z)⟩
end
/-! ### x in d, x not in d -/
section
variable {l : List Asn} {H : Hp} {σ : L2.St} {d : Addr} {m : List (Str × Int)} {w : Str} {e : Nat} {td ty : TE} {Q : VK} {RO : Option V → Prop}
theorem d_notin (q : ty σ H fun y H1 => td σ H1 fun x H2 => ∃ a o, x = .ref a ∧ DGet H2 a y o ∧ Q (.bl (!o.isSome)) H2) : tDNotIn ty td σ H Q := q
theorem e_inF {od : Obj} (S : Sep l H) (hi : l[e]? = some (At d (.frz od (.dK (mp m))))) (q : ∀ o : Option V, o.isSome = decide (w ∈ keys m) → RO o) : ∃ a o, V.ref d = .ref a ∧ DGet H a (.str w) o ∧ RO o := ⟨d, _, rfl, dget_of (.inr ⟨od, S.at hi⟩), q _ (by
  rw [val_mp]
  by_cases hw : w ∈ keys m
  · rw [decide_eq_true hw, if_pos hw]; rfl
  · rw [decide_eq_false hw, if_neg hw]; rfl)⟩
end
local macro_rules | `(tactic| walk_at "v1") => `(tactic| (first
  | with_reducible refine d_notin ?_
  | ((with_reducible refine' e_inF (by assumption) ?hi ?_); (case hi => walk_at "has"); (refine fun o ho => ?_); rw [ho]; clear ho)))
/-! ### min, max of two -/
def gMin2 : List V → Hp → VK → Prop := fun xs H Q => ∃ i j, xs = [V.int i, V.int j] ∧ Q (V.int (if j < i then j else i)) H
def gMax2 : List V → Hp → VK → Prop := fun xs H Q => ∃ i j, xs = [V.int i, V.int j] ∧ Q (V.int (if j > i then j else i)) H
theorem call_gMin2 {X : Cx} (hc : X.calm = true) : CallR X (.builtin "min") gMin2 := call_min2 hc
theorem call_gMax2 {X : Cx} (hc : X.calm = true) : CallR X (.builtin "max") gMax2 := call_max2 hc
section
variable {l : List Asn} {H : Hp} {σ : L2.St} {Q : VK} {m n : Int} {p q C : Addr} {g h : Str → Int} {sp : Sp} {E : XK} {e e2 : Nat} {K : PySem.W.Frag} {x y : V}
theorem o_min2 (k : Q (.int (if n < m then n else m)) H) : gMin2 [.int m, .int n] H Q := ⟨m, n, rfl, k⟩
theorem o_max2 (k : Q (.int (if n > m then n else m)) H) : gMax2 [.int m, .int n] H Q := ⟨m, n, rfl, k⟩
theorem u_co (S : Sep l H) (hi : l[e]? = some (Co p C g)) (k : sp [.ref p] H Q E) : rUnOwn C sp E (.ref p) H Q := by
  obtain ⟨dx, fs, h1⟩ := ins_co S hi
  exact ⟨p, dx, fs, rfl, h1, k⟩
theorem ab_co (S : Sep l H) (hi : l[e]? = some (Co p C g)) (k : sp [.ref p] H Q E) : rAbsOwn C sp E [.ref p] H Q := by
  obtain ⟨dx, fs, h1⟩ := ins_co S hi
  exact ⟨p, dx, fs, rfl, h1, k⟩
theorem ip_co (S : Sep l H) (hi : l[e]? = some (Co p C g)) (k : sp [.ref p, y] H Q E) : rInpOwn C sp E (.ref p) y H Q := by
  obtain ⟨dx, fs, h1⟩ := ins_co S hi
  exact ⟨p, dx, fs, rfl, h1, k⟩
theorem in_co {neg : Bool} (S : Sep l H) (hi : l[e]? = some (Co p C g)) (k : sp [.ref p, x] H (fun z H' => ∃ b : Bool, z = .bl b ∧ Q (.bl (if neg then !b else b)) H') E) : rInOwn neg C sp E x (.ref p) H Q := by
  obtain ⟨dx, fs, h1⟩ := ins_co S hi
  exact ⟨p, dx, fs, rfl, h1, k⟩
theorem ix_co {y : V} (S : Sep l H) (hi : l[e]? = some (Co p C g)) (k : sp [.ref p, y] H Q E) : ∃ a dx fs, V.ref p = V.ref a ∧ H a = some (.ins C dx fs) ∧ sp [V.ref a, y] H Q E := by
  obtain ⟨dx, fs, h1⟩ := ins_co S hi
  exact ⟨p, dx, fs, rfl, h1, k⟩
theorem tr_co {R : Bool → Hp → Prop} (S : Sep l H) (hi : l[e]? = some (Co p C g)) (k : sp [.ref p] H (fun z H' => ∃ b : Bool, z = .bl b ∧ R b H') E) : rTruOwn C sp E (.ref p) H R := by
  obtain ⟨dx, fs, h1⟩ := ins_co S hi
  exact ⟨p, dx, fs, rfl, h1, k⟩
end
local macro_rules | `(tactic| walk_at "v1") => `(tactic| (first
  | with_reducible refine r_ddel ?_
  | with_reducible refine o_min2 ?_
  | with_reducible refine o_max2 ?_
  | ((with_reducible refine' dl_mp (by assumption) ?hi (by assumption) ?_); (case hi => walk_at "has"); intro _ S; simp only [List.set] at S)
  | ((with_reducible refine' u_co (by assumption) ?hi ?_); (case hi => walk_at "has"))
  | ((with_reducible refine' ab_co (by assumption) ?hi ?_); (case hi => walk_at "has"))
  | ((with_reducible refine' ip_co (by assumption) ?hi ?_); (case hi => walk_at "has"))
  | ((with_reducible refine' in_co (by assumption) ?hi ?_); (case hi => walk_at "has"))
  | ((with_reducible refine' ix_co (by assumption) ?hi ?_); (case hi => walk_at "has"))
  | ((with_reducible refine' tr_co (by assumption) ?hi ?_); (case hi => walk_at "has"))))
/-! ### words with two numbers -/
abbrev tri (g h : Str → Int) (ws : List Str) : List PyData := ws.map fun w => PyData.tuple [.str w, .int (g w), .int (h w)]
/-- ws are words, each once, and all that have a number -/
def Bs (g h : Str → Int) (ws : List Str) : Prop := ws.Nodup ∧ (∀ w ∈ ws, Wd w) ∧ ∀ w, w ∉ ws → g w = 0 ∧ h w = 0
theorem tri_get {H : Hp} {vs : List V} {g h : Str → Int} {ws : List Str} {i : Nat} {v : V} (D : IsDs H vs (tri g h ws)) (e : vs[i]? = some v) : ∃ q w, ws[i]? = some w ∧ v = .ref q ∧ H q = some (.tup [.str w, .int (g w), .int (h w)]) := by
  obtain ⟨d, e1, h1⟩ := D.get e
  rw [List.getElem?_map] at e1
  cases e2 : ws[i]? with
  | none => rw [e2] at e1; cases e1
  | some w =>
    rw [e2] at e1
    cases e1
    cases h1 with
    | tup hq r =>
      cases r with
      | cons a r =>
        cases a
        cases r with
        | cons b r =>
          cases b
          cases r with
          | cons c r =>
            cases c
            cases r
            exact ⟨_, w, rfl, rfl, hq⟩
theorem tri_isD {H : Hp} {q : Addr} {w : Str} {m n : Int} (h : H q = some (.tup [.str w, .int m, .int n])) : IsD H (.ref q) (.tuple [.str w, .int m, .int n]) :=
  .tup h (.cons (.str w) (.cons (.int m) (.cons (.int n) .nil)))
theorem tri_len {H : Hp} {vs : List V} {g h : Str → Int} {ws : List Str} (D : IsDs H vs (tri g h ws)) : vs.length = ws.length := by rw [D.len, List.length_map]
/-- the words with what f says of them -/
abbrev fps (f : Str → Int) (ws : List Str) : List (Str × Int) := ws.map fun w => (w, f w)
theorem keys_fps (f : Str → Int) (ws : List Str) : keys (fps f ws) = ws := by
  unfold keys
  rw [List.map_map]
  conv => rhs; rw [← List.map_id ws]
  exact List.map_congr_left fun _ _ => rfl
theorem num_fps {f : Str → Int} : ∀ {ws : List Str}, ws.Nodup → (∀ w, w ∉ ws → f w = 0) → num (fps f ws) = f := by
  intro ws hn h0
  funext w
  by_cases hw : w ∈ ws
  · have := num_at (m := fps f ws) (x := (w, f w)) (by rw [keys_fps]; exact hn) (List.mem_map.2 ⟨w, hw, rfl⟩)
    exact this
  · rw [h0 w hw]
    exact num_none (by rw [keys_fps]; exact hw)
theorem fps_snoc {H : Hp} {f : Str → Int} {us : List V} {ws : List Str} {w : Str} {q : Addr} (D : IsDs H us (pds (fps f ws))) (h : H q = some (.tup [.str w, .int (f w)])) : IsDs H (us ++ [.ref q]) (pds (fps f (ws ++ [w]))) := by
  have h1 := IsDs.snoc (pair_isD h) D
  have e : pds (fps f ws) ++ [pd (w, f w)] = pds (fps f (ws ++ [w])) := by simp
  rw [← e]; exact h1
theorem fps_wd {f : Str → Int} {ws : List Str} (h : ∀ w ∈ ws, Wd w) : ∀ x ∈ fps f ws, Wd x.1 := fun x hx => by
  obtain ⟨w, hw, rfl⟩ := List.mem_map.1 hx
  exact h w hw
/-- counts at an index -/
theorem Sep.co {l : List Asn} {H : Hp} {i : Nat} {p C : Addr} {g : Str → Int} (S : Sep l H) (e : l[i]? = some (Co p C g)) : ∃ d m, Good m ∧ num m = g ∧ Sep (Ob p C [("_numbers", .ref d)] :: At d (.dK (mp m)) :: l.eraseIdx i) H := co_open (S.pick e)
theorem Sep.coBack {l : List Asn} {H : Hp} {i : Nat} {p C d : Addr} {g : Str → Int} {m : List (Str × Int)} (e : l[i]? = some (Co p C g)) (h : Good m) (h2 : num m = g) (S : Sep (Ob p C [("_numbers", .ref d)] :: At d (.dK (mp m)) :: l.eraseIdx i) H) : Sep l H := Sep.backS e (co_close h h2 S)

theorem asc_nodup {ws : List Str} (h : Asc ws) : ws.Nodup := List.Pairwise.imp (fun {a b} (h : lt' a b) (e : a = b) => lt_irr b (e ▸ h)) h
theorem len_sub : ∀ {xs ys : List Str}, xs.Nodup → (∀ x ∈ xs, x ∈ ys) → xs.length ≤ ys.length
  | [], _, _, _ => Nat.zero_le _
  | x :: xs, ys, hn, h => by
    have hn' := List.nodup_cons.1 hn
    have hx := h x List.mem_cons_self
    have h1 := len_sub (ys := ys.erase x) hn'.2 fun y hy => (List.mem_erase_of_ne (fun (e : y = x) => hn'.1 (by rw [← e]; exact hy))).2 (h y (List.mem_cons_of_mem _ hy))
    rw [List.length_erase_of_mem hx] at h1
    have : 0 < ys.length := List.length_pos_of_mem hx
    rw [List.length_cons]; omega
theorem erase_get {α : Type} {l : List α} {i j : Nat} {x : α} (h : i ≠ j) (e : l[j]? = some x) : (l.eraseIdx i)[if j < i then j else j - 1]? = some x := by
  rw [List.getElem?_eraseIdx]
  by_cases c : j < i
  · rw [if_pos c, if_pos c]; exact e
  · rw [if_neg c, if_neg (by omega), show j - 1 + 1 = j by omega]; exact e

/-! dicts by their numbers alone; assertions found in a frame that is not listed -/
local macro_rules | `(tactic| walk_at "hasA") => `(tactic| (first | assumption | ((with_reducible refine' hasS ?h2); (case h2 => walk_at "hasA")) | fail "has"))
local macro_rules | `(tactic| walk_at "has") => `(tactic| (first | walk_at "hasR" | walk_at "hasA" | walk_at "hasD" | fail "has"))
/-- a dict of words and numbers, known by its numbers: at most n entries -/
def Md (d : Addr) (F : Str → Int) (n : Nat) : Asn := Exs fun m : List (Str × Int) => Pk [pure' ((keys m).Nodup ∧ m.length ≤ n ∧ num m = F), At d (.dK (mp m))]
section
variable {l : List Asn} {H : Hp} {d : Addr} {F : Str → Int} {n : Nat} {m : List (Str × Int)} {i : Nat}
theorem md_open (S : Sep (Md d F n :: l) H) : ∃ m, (keys m).Nodup ∧ m.length ≤ n ∧ num m = F ∧ Sep (At d (.dK (mp m)) :: l) H := by
  obtain ⟨m, S⟩ := S.ex
  obtain ⟨⟨h1, h2, h3⟩, S⟩ := (S.open').pure
  exact ⟨m, h1, h2, h3, S⟩
theorem md_close (h1 : (keys m).Nodup) (h2 : m.length ≤ n) (h3 : num m = F) (S : Sep (At d (.dK (mp m)) :: l) H) : Sep (Md d F n :: l) H :=
  Sep.ex' (x := m) (Sep.close' (l := [_, _]) (Sep.pure_in ⟨h1, h2, h3⟩ S))
theorem Sep.md (S : Sep l H) (e : l[i]? = some (Md d F n)) : ∃ m, (keys m).Nodup ∧ m.length ≤ n ∧ num m = F ∧ Sep (At d (.dK (mp m)) :: l.eraseIdx i) H := md_open (S.pick e)
theorem Sep.mdBack (e : l[i]? = some (Md d F n)) (h1 : (keys m).Nodup) (h2 : m.length ≤ n) (h3 : num m = F) (S : Sep (At d (.dK (mp m)) :: l.eraseIdx i) H) : Sep l H := Sep.backS e (md_close h1 h2 h3 S)
/-- what is read of it -/
theorem Sep.mdAt (S : Sep l H) (e : l[i]? = some (Md d F n)) : ∃ m, (keys m).Nodup ∧ m.length ≤ n ∧ num m = F ∧ H d = some (.dK (mp m)) := by
  obtain ⟨m, h1, h2, h3, S⟩ := S.md e
  exact ⟨m, h1, h2, h3, S.at (i := 0) rfl⟩
theorem Md.sz (S : Sep l H) (e : l[i]? = some (Md d F n)) : Sz F n := by
  obtain ⟨m, _, h2, h3, _⟩ := S.mdAt e
  exact Sz.of h3 h2
theorem e_isdM {R : Addr → Prop} (S : Sep l H) (hi : l[i]? = some (Md d F n)) (q : R d) : ∃ a, V.ref d = .ref a ∧ L2.IsD H a ∧ R a := by
  obtain ⟨m, _, _, _, h⟩ := S.mdAt hi
  exact ⟨d, rfl, .inl ⟨mp m, .inl h⟩, q⟩
theorem e_get0M {w : Str} {R : Option V → Prop} (S : Sep l H) (hi : l[i]? = some (Md d F n)) (q : ∀ o : Option V, o.getD (.int 0) = .int (F w) → R o) : ∃ o, DGet H d (.str w) o ∧ R o := by
  obtain ⟨m, _, _, h3, h⟩ := S.mdAt hi
  subst h3
  exact get0_of (.inl h) q
theorem ld_md {Q : VK} (S : Sep l H) (hi : l[i]? = some (Md d F n)) (k : ∀ (p : Addr) (ks : List Str) (H' : Hp), (∀ w, w ∉ ks → F w = 0) → ks.length ≤ n → Sep (At p (.lst (ks.map V.str)) :: l) H' → Q (.ref p) H') : gListD [.ref d] H Q := by
  obtain ⟨m, _, h2, h3, h⟩ := S.mdAt hi
  subst h3
  refine ⟨d, mp m, rfl, .inl h, fun p hp => ?_⟩
  rw [kv_mp]
  exact k p (keys m) _ (fun w hw => num_none hw) (by unfold keys; rw [List.length_map]; exact h2) (S.new hp)
theorem pk_md (h1 : (keys m).Nodup) (h2 : m.length ≤ n) (h3 : num m = F) (S : Sep (At d (.dK (mp m)) :: l) H) : Sep (Md d F n :: l) H := md_close h1 h2 h3 S
end
local macro_rules | `(tactic| walk_at "v1") => `(tactic| (first
  | ((with_reducible refine' ld_md (by assumption) ?hi ?_); (case hi => walk_at "has"); intro _ _ _ _ _ _)
  | ((with_reducible refine' e_isdM (by assumption) ?hi ?_); (case hi => walk_at "has"))
  | ((with_reducible refine' e_get0M (by assumption) ?hi ?_); (case hi => walk_at "has"); (refine fun o ho => ?_); rw [ho]; clear ho)))
/-- m has F of the words ws alone -/
def Mw (F : Str → Int) (ws : List Str) (m : List (Str × Int)) : Prop := (keys m).Nodup ∧ m.length ≤ ws.length ∧ ∀ w, num m w = if w ∈ ws then F w else 0
theorem Mw.nil {F : Str → Int} : Mw F [] [] := ⟨List.nodup_nil, Nat.le_refl _, fun w => by rw [if_neg (fun z => nomatch z)]; rfl⟩
theorem Mw.put {F : Str → Int} {ws : List Str} {m : List (Str × Int)} (h : Mw F ws m) (w : Str) : Mw F (ws ++ [w]) (mput m w (F w)) := by
  refine ⟨nodup_put h.1 _ _, Nat.le_trans (len_put _ _ _) (by rw [List.length_append]; exact Nat.succ_le_succ h.2.1), fun v => ?_⟩
  rw [num_put, h.2.2]
  by_cases e : v = w
  · rw [if_pos e, if_pos (List.mem_append_right _ (List.mem_singleton.2 e)), e]
  · rw [if_neg e]
    by_cases hv : v ∈ ws
    · rw [if_pos hv, if_pos (List.mem_append_left _ hv)]
    · rw [if_neg hv, if_neg fun z => (List.mem_append.1 z).elim hv fun z => e (List.mem_singleton.1 z)]
theorem Mw.all {F : Str → Int} {ws : List Str} {m : List (Str × Int)} (h : Mw F ws m) (k : ∀ w, w ∉ ws → F w = 0) : num m = F := funext fun w => by
  rw [h.2.2]
  by_cases hw : w ∈ ws
  · rw [if_pos hw]
  · rw [if_neg hw, k w hw]
theorem psum_bound {ps : List (Str × Int)} (h : Gp ps) (w : Str) : (psum ps w).natAbs ≤ ps.length * 10 ^ 30 := by
  induction ps with
  | nil => exact Nat.zero_le _
  | cons x ps ih =>
    have ih := ih fun y hy => h y (List.mem_cons_of_mem _ hy)
    have hx := (h x List.mem_cons_self).2
    show ((if x.1 = w then x.2 else 0) + psum ps w).natAbs ≤ (ps.length + 1) * 10 ^ 30
    have h1 : (if x.1 = w then x.2 else 0).natAbs ≤ 10 ^ 30 := by
      split
      · omega
      · exact Nat.zero_le _
    have h2 := Int.natAbs_add_le (if x.1 = w then x.2 else 0) (psum ps w)
    rw [Nat.add_mul, Nat.one_mul]
    omega
theorem psum_big {ps : List (Str × Int)} (h : Gp ps) (hz : ps.length ≤ 1000) (w : Str) : (psum ps w).natAbs < 2 ^ 900 := by
  have h1 := psum_bound h w
  have h2 : ps.length * 10 ^ 30 ≤ 1000 * 10 ^ 30 := Nat.mul_le_mul_right _ hz
  have h3 : 1000 * 10 ^ 30 < 2 ^ 900 := by decide +kernel
  omega
theorem SepF.inv {A : Asn} {l : List Asn} {g : Addr → Prop} {H : Hp} (S : SepF (A :: l) g H) : ∃ f g', A.h f H ∧ SepF l g' H ∧ ∀ a, g a ↔ (f a ∨ g' a) := by
  cases S with
  | cons h S d => exact ⟨_, _, h, S, fun _ => Iff.rfl⟩
theorem co_ne_md {l : List Asn} {H : Hp} {i j : Nat} {p C d : Addr} {g F : Str → Int} {n : Nat} (S : Sep l H) (e : l[i]? = some (Co p C g)) (e2 : l[j]? = some (Md d F n)) : i ≠ j := by
  intro h
  subst h
  have e3 := Option.some.inj (e.symm.trans e2)
  obtain ⟨f, hf⟩ := S.get e
  have hf2 : (Md d F n).h f H := e3 ▸ hf
  obtain ⟨x, hs⟩ := hf
  obtain ⟨f1, g1, _, hs, k1⟩ := SepF.inv (show SepF _ f H from hs)
  obtain ⟨f2, g2, ho, _, k2⟩ := hs.inv
  obtain ⟨dx, ho⟩ := ho
  obtain ⟨f3, g3, hp, _, k3⟩ := SepF.inv (show SepF _ f2 H from ho)
  have hp' : H p = some _ ∧ ∀ a, f3 a ↔ a = p := hp
  have fp : f p := (k1 p).2 (.inr ((k2 p).2 (.inl ((k3 p).2 (.inl ((hp'.2 p).2 rfl))))))
  obtain ⟨m, hm⟩ := hf2
  obtain ⟨f4, g4, hpu, hm, k4⟩ := SepF.inv (show SepF _ f H from hm)
  obtain ⟨f5, g5, hd, hm, k5⟩ := hm.inv
  have hpu' : _ ∧ ∀ a, ¬ f4 a := hpu
  have hd' : H d = some (.dK (mp m)) ∧ ∀ a, f5 a ↔ a = d := hd
  rcases (k4 p).1 fp with z | z
  · exact hpu'.2 p z
  · rcases (k5 p).1 z with z | z
    · have e5 := (hd'.2 p).1 z
      rw [← e5, hp'.1] at hd'
      exact nomatch hd'.1
    · cases hm
      exact z
/-! ### dict(d), C.m(..), lists of texts compared -/
def gDictD (xs : List V) (H : Hp) (Q : VK) : Prop := ∃ (a : Addr) (kvs : List (Key × V)), xs = [.ref a] ∧ Rd H a (.dK kvs) ∧ ∀ p, H p = Option.none → Q (.ref p) (upd H p (.dK kvs))
theorem call_gDictD {X : Cx} : CallR X (.type "dict") gDictD := call_dictD
theorem dd_mp {l : List Asn} {H : Hp} {d : Addr} {m : List (Str × Int)} {e : Nat} {Q : VK} (S : Sep l H) (hi : l[e]? = some (At d (.dK (mp m)))) (k : ∀ p H', Sep (At p (.dK (mp m)) :: l) H' → Q (.ref p) H') : gDictD [.ref d] H Q :=
  ⟨d, mp m, rfl, .inl (S.at hi), fun p hp => k p _ (S.new hp)⟩
local macro_rules | `(tactic| walk_at "v1") => `(tactic| ((with_reducible refine' dd_mp (by assumption) ?hi ?_); (case hi => walk_at "has"); intro _ _ _))
theorem r_cmethC {σ : L2.St} {H : Hp} {C : Addr} {sp : Sp} {E : XK} {t : TA} {Q : VK} (q : t σ H fun vs H2 => sp (.ref C :: vs) H2 Q E) : ClX.tCMeth C sp E (tC (.ref C)) t σ H Q := ⟨rfl, q⟩
local macro_rules | `(tactic| walk_at "v1") => `(tactic| (with_reducible refine r_cmethC ?_))
theorem ne_lss {l : List Asn} {H : Hp} {p p2 : Addr} {K : PySem.W.Frag} {Q : VK} {e e2 : Nat} {ws us : List Str} (S : Sep l H) (hi : l[e]? = some (At p (.lst (ws.map V.str)))) (hj : l[e2]? = some (At p2 (.lst (us.map V.str)))) (h1 : ∀ w ∈ ws, Wd w) (h2 : ∀ w ∈ us, Wd w) (q : Q (.bl (!decide (ws = us))) H) : gNe K (.ref p) (.ref p2) H Q :=
  .inr ⟨.list (dStrs ws), .list (dStrs us), .lst (SqL.of (S.at hi)) (dp_strs ws), .lst (SqL.of (S.at hj)) (dp_strs us), shaped_lst (flat_dstrs h1), shaped_lst (flat_dstrs h2), by rw [PyData.eqv, eqv_dstrs]; exact q⟩
theorem cut_lastV (xs : List V) (v : V) : cutV (xs ++ [v]) none (some (-1)) = xs := by
  unfold cutV
  have e1 : HT.sIx (xs.length + 1) (xs.length + 1) (some (-1)) = xs.length := by
    unfold HT.sIx
    simp
    try omega
  have e0 : HT.sIx (xs.length + 1) 0 none = 0 := rfl
  rw [show (xs ++ [v]).length = xs.length + 1 by simp, e1, e0]
  simp
/-! ### the truth of a bool -/
theorem r_tr {K : PySem.W.Frag} {ta : TE} {σ : L2.St} {H : Hp} {Q : Bool → Hp → Prop} (q : ta σ H fun x H' => ∃ k, TruV K x H' k ∧ Q k H') : tTr K ta σ H Q := q
theorem tr_bl {K : PySem.W.Frag} {H : Hp} {b : Bool} {R : Bool → Prop} (q : R b) : ∃ k, TruV K (.bl b) H k ∧ R k := ⟨b, rfl, q⟩
local macro_rules | `(tactic| walk_at "v1") => `(tactic| (first
  | with_reducible refine r_tr ?_
  | with_reducible refine tr_bl ?_))
/-! ### rows -/
theorem SepF.perm {l l' : List Asn} {H : Hp} (h : l.Perm l') : ∀ {g : Addr → Prop}, SepF l g H → SepF l' g H := by
  induction h with
  | nil => exact fun S => S
  | cons A _ ih =>
    intro g S
    cases S with
    | cons h S d => exact .cons h (ih S) d
  | swap A B l =>
    intro g S
    exact S.pick (i := 1) rfl
  | trans _ _ h1 h2 => exact fun S => h2 (h1 S)
theorem Sep.perm {l l' : List Asn} {H : Hp} (S : Sep l H) (h : l.Perm l') : Sep l' H := S.imp fun _ q => q.perm h
/-- a row: new counts with the numbers F, beside a dict -/
structure Rx where
  q : Addr
  d : Addr
  F : Str → Int
def Rw (C : Addr) (r : Rx) : Asn := Exs fun p : Addr => Pk [Tp r.q [.ref p, .ref r.d], Co p C r.F]
theorem rw_close {C p : Addr} {r : Rx} {l : List Asn} {H : Hp} (S : Sep (Tp r.q [.ref p, .ref r.d] :: Co p C r.F :: l) H) : Sep (Rw C r :: l) H := Sep.ex' (x := p) (Sep.close' (l := [_, _]) S)
theorem rw_open {C : Addr} {r : Rx} {l : List Asn} {H : Hp} (S : Sep (Rw C r :: l) H) : ∃ p, Sep (Tp r.q [.ref p, .ref r.d] :: Co p C r.F :: l) H := by
  obtain ⟨p, S⟩ := S.ex
  exact ⟨p, S.open'⟩
/-- the rows rs in a list at L; their dicts are in fr -/
def Rows (C L : Addr) (rs : List Rx) (fr : List Asn) (H : Hp) : Prop := rs.length ≤ 60 ∧ (∀ r ∈ rs, ∃ (t n : Nat), n < 64 ∧ fr[t]? = some (Md r.d r.F n)) ∧ Sep (At L (.lst (rs.map fun r => V.ref r.q)) :: (rs.map (Rw C) ++ fr)) H
theorem Rows.add {C L : Addr} {rs news : List Rx} {ms fr : List Asn} {H : Hp} (hz : (rs ++ news).length ≤ 60) (h0 : ∀ r ∈ rs, ∃ (t n : Nat), n < 64 ∧ fr[t]? = some (Md r.d r.F n)) (h1 : ∀ r ∈ news, ∃ (t n : Nat), n < 64 ∧ (ms ++ fr)[t]? = some (Md r.d r.F n))
    (S : Sep (At L (.lst (rs.map (fun r => V.ref r.q) ++ news.map fun r => V.ref r.q)) :: (news.map (Rw C) ++ (ms ++ (rs.map (Rw C) ++ fr)))) H) : Rows C L (rs ++ news) (ms ++ fr) H := by
  refine ⟨hz, fun r hr => ?_, ?_⟩
  · rcases List.mem_append.1 hr with hr | hr
    · obtain ⟨t, n, hn, e⟩ := h0 r hr
      exact ⟨ms.length + t, n, hn, by rw [List.getElem?_append_right (by omega), Nat.add_sub_cancel_left]; exact e⟩
    · exact h1 r hr
  · rw [← List.map_append] at S
    refine S.perm (List.Perm.cons _ ?_)
    rw [List.map_append, List.append_assoc]
    have e1 : (List.map (Rw C) news ++ (ms ++ (List.map (Rw C) rs ++ fr))).Perm (List.map (Rw C) news ++ (List.map (Rw C) rs ++ (ms ++ fr))) :=
      List.Perm.append_left _ (by rw [← List.append_assoc, ← List.append_assoc]; exact List.Perm.append_right _ List.perm_append_comm)
    refine e1.trans ?_
    rw [← List.append_assoc, ← List.append_assoc (List.map (Rw C) rs)]
    exact List.Perm.append_right _ List.perm_append_comm
theorem app_get {l fr : List Asn} {i : Nat} {A : Asn} (h : fr[i]? = some A) : (l ++ fr)[l.length + i]? = some A := by
  rw [List.getElem?_append_right (by omega), Nat.add_sub_cancel_left]; exact h
theorem packs {C : Addr} {H : Hp} : ∀ (ps : List (Addr × Rx)) (X : Asn) (l : List Asn), Sep ((ps.flatMap fun x => [Tp x.2.q [.ref x.1, .ref x.2.d], Co x.1 C x.2.F]) ++ X :: l) H → Sep (X :: ((ps.map fun x => Rw C x.2) ++ l)) H
  | [], _, _, S => S
  | x :: ps, X, l, S => by
    have S1 : Sep (Rw C x.2 :: ((ps.flatMap fun x => [Tp x.2.q [.ref x.1, .ref x.2.d], Co x.1 C x.2.F]) ++ X :: l)) H := rw_close S
    have S2 : Sep ((ps.flatMap fun x => [Tp x.2.q [.ref x.1, .ref x.2.d], Co x.1 C x.2.F]) ++ X :: (Rw C x.2 :: l)) H := S1.perm (by
      refine List.perm_middle.symm.trans (List.Perm.append_left _ (List.Perm.swap _ _ _))
      )
    have S3 := packs ps X (Rw C x.2 :: l) S2
    refine S3.perm (List.Perm.cons _ ?_)
    exact List.perm_middle
theorem Sep.dropAt {l : List Asn} {H : Hp} (S : Sep l H) (i : Nat) : Sep (l.eraseIdx i) H := by
  by_cases h : i < l.length
  · exact (S.pick (List.getElem?_eq_getElem h)).tail
  · rw [List.eraseIdx_of_length_le (by omega)]; exact S
def drops : List Nat → List Asn → List Asn
  | [], l => l
  | i :: is, l => drops is (l.eraseIdx i)
theorem Sep.drops {H : Hp} : ∀ (is : List Nat) {l : List Asn}, Sep l H → Sep (Y.drops is l) H
  | [], _, S => S
  | i :: is, _, S => Sep.drops is (S.dropAt i)
/-! ### rows with a dict each -/
def Rv (C : Addr) (r : Rx) : Asn := Exs fun p : Addr => Pk [Tp r.q [.ref p, .ref r.d], Co p C r.F, Md r.d r.F 30]
theorem rv_close {C p : Addr} {r : Rx} {l : List Asn} {H : Hp} (S : Sep (Tp r.q [.ref p, .ref r.d] :: Co p C r.F :: Md r.d r.F 30 :: l) H) : Sep (Rv C r :: l) H := Sep.ex' (x := p) (Sep.close' (l := [_, _, _]) S)
theorem rv_open {C : Addr} {r : Rx} {l : List Asn} {H : Hp} (S : Sep (Rv C r :: l) H) : ∃ p, Sep (Tp r.q [.ref p, .ref r.d] :: Co p C r.F :: Md r.d r.F 30 :: l) H := by
  obtain ⟨p, S⟩ := S.ex
  exact ⟨p, S.open'⟩
theorem packv {C : Addr} {H : Hp} : ∀ (ps : List (Addr × Rx)) (X : Asn) (l : List Asn), Sep ((ps.flatMap fun x => [Tp x.2.q [.ref x.1, .ref x.2.d], Co x.1 C x.2.F, Md x.2.d x.2.F 30]) ++ X :: l) H → Sep (X :: ((ps.map fun x => Rv C x.2) ++ l)) H
  | [], _, _, S => S
  | x :: ps, X, l, S => by
    have S1 : Sep (Rv C x.2 :: ((ps.flatMap fun x => [Tp x.2.q [.ref x.1, .ref x.2.d], Co x.1 C x.2.F, Md x.2.d x.2.F 30]) ++ X :: l)) H := rv_close S
    have S2 : Sep ((ps.flatMap fun x => [Tp x.2.q [.ref x.1, .ref x.2.d], Co x.1 C x.2.F, Md x.2.d x.2.F 30]) ++ X :: (Rv C x.2 :: l)) H := S1.perm (List.perm_middle.symm.trans (List.Perm.append_left _ (List.Perm.swap _ _ _)))
    exact (packv ps X (Rv C x.2 :: l) S2).perm (List.Perm.cons _ List.perm_middle)
/-- the rows rs in a list at L -/
def Rovs (C L : Addr) (rs : List Rx) (fr : List Asn) (H : Hp) : Prop := Sep (At L (.lst (rs.map fun r => V.ref r.q)) :: (rs.map (Rv C) ++ fr)) H
theorem Rovs.add {C L : Addr} {rs news : List Rx} {fr : List Asn} {H : Hp} (S : Sep (At L (.lst (rs.map (fun r => V.ref r.q) ++ news.map fun r => V.ref r.q)) :: (news.map (Rv C) ++ (rs.map (Rv C) ++ fr))) H) : Rovs C L (rs ++ news) fr H := by
  unfold Rovs
  rw [← List.map_append] at S
  refine S.perm (List.Perm.cons _ ?_)
  rw [List.map_append, ← List.append_assoc]
  exact List.Perm.append_right _ List.perm_append_comm

/-! dicts by their numbers, their keys among given words -/
def Mq (d : Addr) (F : Str → Int) (ws : List Str) : Asn := Exs fun m : List (Str × Int) => Pk [pure' ((keys m).Nodup ∧ (∀ w ∈ keys m, w ∈ ws) ∧ num m = F), At d (.dK (mp m))]
/-- all numbers are of these words -/
def On (F : Str → Int) (ws : List Str) : Prop := ∀ w, w ∉ ws → F w = 0
theorem On.sz {F : Str → Int} {ws : List Str} {n : Nat} (h : On F ws) (k : ws.length ≤ n) : Sz F n := ⟨ws, k, fun w z => Classical.byContradiction fun y => z (h w y)⟩
theorem On.map {F G : Str → Int} {ws : List Str} (h : On F ws) (k : ∀ w, F w = 0 → G w = 0) : On G ws := fun w z => k w (h w z)
theorem On.two {F G J : Str → Int} {ws : List Str} (h : On F ws) (h2 : On G ws) (k : ∀ w, F w = 0 → G w = 0 → J w = 0) : On J ws := fun w z => k w (h w z) (h2 w z)
theorem On.put {F : Str → Int} {ws : List Str} (h : On F ws) (v : Str) (x : Int) : On (fun w => if w = v then x else F w) (v :: ws) := fun w z => by
  show (if w = v then x else F w) = 0
  rw [if_neg (fun e => z (by rw [e]; exact List.mem_cons_self))]
  exact h w fun y => z (List.mem_cons_of_mem _ y)
theorem On.sub {F : Str → Int} {ws us : List Str} (h : On F ws) (k : ∀ w ∈ ws, w ∈ us) : On F us := fun w z => h w fun y => z (k w y)
theorem on_psum (ps : List (Str × Int)) : On (psum ps) (keys ps) := fun w h => by
  induction ps with
  | nil => rfl
  | cons x ps ih =>
    show (if x.1 = w then x.2 else 0) + psum ps w = 0
    rw [if_neg (fun e => h (by rw [← e]; exact List.mem_cons_self)), ih fun z => h (List.mem_cons_of_mem _ z)]; rfl
section
variable {l : List Asn} {H : Hp} {d : Addr} {F : Str → Int} {ws us : List Str} {m : List (Str × Int)} {i : Nat} {n : Nat}
theorem mq_open (S : Sep (Mq d F ws :: l) H) : ∃ m, (keys m).Nodup ∧ (∀ w ∈ keys m, w ∈ ws) ∧ num m = F ∧ Sep (At d (.dK (mp m)) :: l) H := by
  obtain ⟨m, S⟩ := S.ex
  obtain ⟨⟨h1, h2, h3⟩, S⟩ := (S.open').pure
  exact ⟨m, h1, h2, h3, S⟩
theorem mq_close (h1 : (keys m).Nodup) (h2 : ∀ w ∈ keys m, w ∈ ws) (h3 : num m = F) (S : Sep (At d (.dK (mp m)) :: l) H) : Sep (Mq d F ws :: l) H :=
  Sep.ex' (x := m) (Sep.close' (l := [_, _]) (Sep.pure_in ⟨h1, h2, h3⟩ S))
theorem Sep.mq (S : Sep l H) (e : l[i]? = some (Mq d F ws)) : ∃ m, (keys m).Nodup ∧ (∀ w ∈ keys m, w ∈ ws) ∧ num m = F ∧ Sep (At d (.dK (mp m)) :: l.eraseIdx i) H := mq_open (S.pick e)
theorem Sep.mqBack (e : l[i]? = some (Mq d F ws)) (h1 : (keys m).Nodup) (h2 : ∀ w ∈ keys m, w ∈ ws) (h3 : num m = F) (S : Sep (At d (.dK (mp m)) :: l.eraseIdx i) H) : Sep l H := Sep.backS e (mq_close h1 h2 h3 S)
theorem Sep.mqAt (S : Sep l H) (e : l[i]? = some (Mq d F ws)) : ∃ m, (keys m).Nodup ∧ (∀ w ∈ keys m, w ∈ ws) ∧ num m = F ∧ H d = some (.dK (mp m)) := by
  obtain ⟨m, h1, h2, h3, S⟩ := S.mq e
  exact ⟨m, h1, h2, h3, S.at (i := 0) rfl⟩
theorem keys_le (h1 : (keys m).Nodup) (h2 : ∀ w ∈ keys m, w ∈ ws) : m.length ≤ ws.length := by
  have := len_sub h1 h2
  unfold keys at this
  rwa [List.length_map] at this
theorem Mq.on (S : Sep l H) (e : l[i]? = some (Mq d F ws)) : On F ws := by
  obtain ⟨m, _, h2, h3, _⟩ := S.mqAt e
  subst h3
  exact fun w hw => num_none fun z => hw (h2 w z)
theorem mq_sub (k : ∀ w ∈ ws, w ∈ us) (S : Sep (Mq d F ws :: l) H) : Sep (Mq d F us :: l) H := by
  obtain ⟨m, h1, h2, h3, S⟩ := mq_open S
  exact mq_close h1 (fun w hw => k w (h2 w hw)) h3 S
theorem e_isdQ {R : Addr → Prop} (S : Sep l H) (hi : l[i]? = some (Mq d F ws)) (q : R d) : ∃ a, V.ref d = .ref a ∧ L2.IsD H a ∧ R a := by
  obtain ⟨m, _, _, _, h⟩ := S.mqAt hi
  exact ⟨d, rfl, .inl ⟨mp m, .inl h⟩, q⟩
theorem e_get0Q {w : Str} {R : Option V → Prop} (S : Sep l H) (hi : l[i]? = some (Mq d F ws)) (q : ∀ o : Option V, o.getD (.int 0) = .int (F w) → R o) : ∃ o, DGet H d (.str w) o ∧ R o := by
  obtain ⟨m, _, _, h3, h⟩ := S.mqAt hi
  subst h3
  exact get0_of (.inl h) q
theorem ld_mq {Q : VK} (S : Sep l H) (hi : l[i]? = some (Mq d F ws)) (k : ∀ (p : Addr) (ks : List Str) (H' : Hp), On F ks → (∀ w ∈ ks, w ∈ ws) → ks.Nodup → Sep (At p (.lst (ks.map V.str)) :: l) H' → Q (.ref p) H') : gListD [.ref d] H Q := by
  obtain ⟨m, h1, h2, h3, h⟩ := S.mqAt hi
  subst h3
  refine ⟨d, mp m, rfl, .inl h, fun p hp => ?_⟩
  rw [kv_mp]
  exact k p (keys m) _ (fun w hw => num_none hw) h2 h1 (S.new hp)
theorem c_lenQ {K : PySem.W.Frag} {Q : VK} (S : Sep l H) (hi : l[i]? = some (Mq d F ws)) (k : ∀ n : Nat, n ≤ ws.length → Q (.int (n : Nat)) H) : gLen K [.ref d] H Q := by
  obtain ⟨m, h1, h2, h3, h⟩ := S.mqAt hi
  refine .inr ⟨d, mp m, rfl, h, ?_⟩
  have := k m.length (keys_le h1 h2)
  rwa [← List.length_map (f := fun x : Str × Int => ((Sum.inr x.1 : Key), V.int x.2))] at this
end
local macro_rules | `(tactic| walk_at "v1") => `(tactic| (first
  | ((with_reducible refine' ld_mq (by assumption) ?hi ?_); (case hi => walk_at "has"); intro _ _ _ _ _ _ _)
  | ((with_reducible refine' e_isdQ (by assumption) ?hi ?_); (case hi => walk_at "has"))
  | ((with_reducible refine' e_get0Q (by assumption) ?hi ?_); (case hi => walk_at "has"); (refine fun o ho => ?_); rw [ho]; clear ho)))
/-- words taken from both, put one by one -/
theorem keys_put_in {m : List (Str × Int)} {w : Str} {n : Int} {ws : List Str} (h : ∀ v ∈ keys m, v ∈ ws) (hw : w ∈ ws) : ∀ v ∈ keys (mput m w n), v ∈ ws := fun v hv => (mem_put hv).elim (fun e => e ▸ hw) (h v)
/-! a, b = x, y -/
section
variable {σ : L2.St} {H : Hp} {ta : TA} {i j : Nat} {nx bk ct : L2.St → Hp → Prop} {rt : VK} {a b c : V} {R : V → V → Prop}
theorem r_par (q : ta σ H fun vs H1 => ∃ v w, vs = [v, w] ∧ nx ((σ.set i (some v)).set j (some w)) H1) : tPar i j ta ⟨nx, rt, bk, ct⟩ σ H := q
theorem e_par (q : R a b) : ∃ v w, [a, b] = [v, w] ∧ R v w := ⟨a, b, rfl, q⟩
end
local macro_rules | `(tactic| walk_at "v1") => `(tactic| (first
  | with_reducible refine r_par ?_
  | with_reducible refine r_aug rfl ?_
  | with_reducible refine e_par ?_))
/-! ### places by a number, one assertion for another, all of them weaker -/
theorem ixN_in {k : Nat} {n : Int} (h0 : 0 ≤ n) (h1 : n < k) : ixN k n = some n.toNat := by
  unfold ixN
  rw [if_pos h0, if_pos h1]
inductive Weak (H : Hp) : List Asn → List Asn → Prop
  | nil : Weak H [] []
  | cons {A B : Asn} {l l' : List Asn} : (∀ f, A.h f H → B.h f H) → Weak H l l' → Weak H (A :: l) (B :: l')
section
variable {l l' : List Asn} {H : Hp} {A B : Asn} {i : Nat} {p : Addr} {xs : List V} {v : V} {n : Int}
theorem w_lstI {e : Nat} {R : Hp → Prop} (S : Sep l H) (hi : l[e]? = some (At p (.lst xs))) (h0 : 0 ≤ n) (h1 : n < xs.length) (k : ∀ H', Sep (l.set e (At p (.lst (xs.set n.toNat v)))) H' → R H') : rSetL (.ref p) (.int n) v H R :=
  w_lst S hi (ixN_in h0 h1) k
theorem Sep.swapIn (S : Sep (B :: l) H) (e : l[i]? = some A) : Sep (l.set i B) H := Sep.back e (S.pick (i := i + 1) (l := B :: l) e).tail
theorem SepF.imp (h : Weak H l l') : ∀ {g : Addr → Prop}, SepF l g H → SepF l' g H := by
  induction h with
  | nil => exact fun S => S
  | cons h _ ih =>
    intro g S
    cases S with
    | cons a S d => exact .cons (h _ a) (ih S) d
theorem Sep.imp (h : Weak H l l') (S : Sep l H) : Sep l' H := by
  obtain ⟨g, S⟩ := S
  exact ⟨g, S.imp h⟩
theorem all2_refl : ∀ (l : List Asn), Weak H l l
  | [] => .nil
  | _ :: l => .cons (fun _ h => h) (all2_refl l)
theorem all2_app {a b c d : List Asn} (h1 : Weak H a b) (h2 : Weak H c d) : Weak H (a ++ c) (b ++ d) := by
  induction h1 with
  | nil => exact h2
  | cons h _ ih => exact .cons h ih
theorem all2_map {α : Type} {f g : α → Asn} (h : ∀ x u, (f x).h u H → (g x).h u H) : ∀ (xs : List α), Weak H (xs.map f) (xs.map g)
  | [] => .nil
  | x :: xs => .cons (h x) (all2_map h xs)
theorem mq_weak {d : Addr} {F : Str → Int} {ws us : List Str} (k : ∀ w ∈ ws, w ∈ us) {f : Addr → Prop} (h : (Mq d F ws).h f H) : (Mq d F us).h f H := by
  obtain ⟨m, h⟩ := h
  have h : SepF [pure' ((keys m).Nodup ∧ (∀ w ∈ keys m, w ∈ ws) ∧ num m = F), At d (.dK (mp m))] f H := h
  cases h with
  | @cons _ _ f1 g1 _ a S dd => exact ⟨m, SepF.cons (A := pure' ((keys m).Nodup ∧ (∀ w ∈ keys m, w ∈ us) ∧ num m = F)) ⟨⟨a.1.1, fun w hw => k w (a.1.2.1 w hw), a.1.2.2⟩, a.2⟩ S dd⟩
theorem e_putQ {d : Addr} {F : Str → Int} {ws : List Str} {w : Str} {R : Hp → Prop} (S : Sep l H) (hi : l[i]? = some (Mq d F ws)) (hw : w ∈ ws) (hz : ws.length ≤ 1000) (k : ∀ H', Sep (l.set i (Mq d (fun v => if v = w then n else F v) ws)) H' → R H') : ∃ a H4, V.ref d = .ref a ∧ DPut H a (.str w) (.int n) H4 ∧ R H4 := by
  obtain ⟨m, h1, h2, h3, S1⟩ := S.mq hi
  subst h3
  have h4 := keys_le h1 h2
  refine e_putI S1 (e := 0) rfl h1 (by omega) fun H' S' => k H' (Sep.back hi (mq_close (nodup_put h1 w n) (keys_put_in h2 hw) (funext fun v => num_put m w n v) S'))
theorem dd_mq {d : Addr} {F : Str → Int} {ws : List Str} {Q : VK} (S : Sep l H) (hi : l[i]? = some (Mq d F ws)) (k : ∀ p H', Sep (Mq p F ws :: l) H' → Q (.ref p) H') : gDictD [.ref d] H Q := by
  obtain ⟨m, h1, h2, h3, h⟩ := S.mqAt hi
  exact ⟨d, mp m, rfl, .inl h, fun p hp => k p _ (mq_close h1 h2 h3 (S.new hp))⟩
end

/-! own == and != beside a value of another class; repr by an own __repr__ -/
section
open PyProof.Rows
section
variable {X : Cx} {CX : CXT} {n : Nat} {f C : Addr} {sp : Sp} {E : XK} {K : PySem.W.Frag}
def rCmpX (K : PySem.W.Frag) (C : Addr) (sp : Sp) (E : XK) : R2 := fun x y H Q => ∃ a dx fs t, x = V.ref a ∧ H a = some (.ins C dx fs) ∧ TyX K H y t ∧ PySem.W.notFirst K C t = true ∧ sp [x, y] H Q E
theorem op_ownCmpX {op : CmpOp} (hK : X.K = K) (hop : ∀ a b, compareOp op a b = richCompare op a b) (hm : Meth X.K C (cmpInfo op).2.1 f) (F : FnR X.prog X.w X.K X.mg X.base CX n f sp) (hr : Room n X.A) (hx : Passes CX X E) : OpR X (compareOp op) (rCmpX K C sp E) := by
  intro pins s σ H x y v u Q I rx ry h
  subst hK
  obtain ⟨a, dx, fs, t, rfl, ha, ht, hs, q⟩ := h
  cases (show v = Value.ref a from rx)
  obtain ⟨ox, od, J⟩ := ins_inst I ha
  obtain ⟨m, hF⟩ := I.fr
  obtain ⟨P, KX, hP, _⟩ := kit_of I ry ht
  rw [hop]
  refine PySem.W.cmp_K (op := op) (tb := t) hr.units0 hF I.ok.mod.kin J (KX.ty _ _ (I.ok.mod.kin.keeps hF.keep) hP) hs hm.at_ hm.fn ?_
  refine wpAny_mono (wpAny_call (run_fnR (us := [.ref a, u]) (vs := [.ref a, y]) F hr hx I (.cons rfl (.cons ry .nil)) q)) (fun w s' z => ?_) fun _ _ x => x
  obtain ⟨z', H', I', rz, qz⟩ := z
  exact SlX.cmpback rz ⟨z', H', I', rz, qz⟩
def rNeX (K : PySem.W.Frag) (C : Addr) (sp : Sp) (E : XK) : R2 := fun x y H Q => ∃ a dx fs t, x = V.ref a ∧ H a = some (.ins C dx fs) ∧ TyX K H y t ∧ PySem.W.notFirst K C t = true ∧ sp [x, y] H (fun z H' => ∃ c : Bool, z = .bl c ∧ Q (.bl (!c)) H') E
theorem op_ownNeX (hK : X.K = K) (hne : PySem.W.findIn X.K (.ref C) "__ne__" = some (some (.builtin "object.__ne__"))) (hob : PySem.W.mroIn X.K C (.type "object") = some true) (hm : Meth X.K C (Str.ofString "__eq__") f) (F : FnR X.prog X.w X.K X.mg X.base CX n f sp) (hr : Room (n + 1) X.A) (hu : X.A.units + 64 < cLine) (hx : Passes CX X E) :
    OpR X (compareOp .NotEq) (rNeX K C sp E) := by
  intro pins s σ H x y v u Q I rx ry h
  subst hK
  obtain ⟨a, dx, fs, t, rfl, ha, ht, hs, q⟩ := h
  cases (show v = Value.ref a from rx)
  obtain ⟨ox, od, J⟩ := ins_inst I ha
  obtain ⟨m, hF⟩ := I.fr
  obtain ⟨P, KX, hP, _⟩ := kit_of I ry ht
  have XK := I.ok.mod.kin.keeps hF.keep
  have hb := KX.ty (model X.prog X.w) _ XK hP
  have entry : wpAny (model X.prog X.w) X.A.in1 (Builtin.«object.__ne__» ⟨[.ref a, u], []⟩) (fun r s' => ∃ w, r = .done (.ret w) ∧ (w ≠ .notImplemented ∧ EP X pins σ Q w s')) X.xe s := by
    unfold Builtin.«object.__ne__»
    repeat (first
      | with_reducible refine wpAny_cRoomFor (show X.A.in1.units < cLine by show X.A.units + 1 < cLine; omega) ?_
      | (refine wpAny_bind (m := callSpecialIfBound? (.ref a) (Str.ofString "__eq__") [u]) (PySem.W.ifBound_K XK J hm.at_ hm.fn
          (wpAny_mono (wpAny_call (SlX.run_at (us := [.ref a, u]) (ws := [.ref a, y]) F (show Room n X.A.in1 from Room.in1 hr) I.env0.in1 hx I (.cons rfl (.cons ry .nil)) q)) (fun w s' z => by
            obtain ⟨z', H', I', rz, c, ez, qz⟩ := z
            subst ez
            cases (show w = Value.bool c from rz)
            repeat (first | exact ⟨_, rfl, nofun, .bl (!c), H', I', rfl, qz⟩ | exact wpAny_pure ⟨_, rfl, nofun, .bl (!c), H', I', rfl, qz⟩ | (refine wpAny_bind (m := truthy (.bool _)) (wpAny_truthy_bool ?_)) | wp_step)) fun _ _ e => e)))
      | wp_step)
  have one : wpAny (model X.prog X.w) X.A (tryCompare (.ref a) "__ne__" u) (fun r s' => ∃ w, r = some w ∧ EP X pins σ Q w s') X.xe s := by
    unfold tryCompare
    refine wpAny_bind (ifBound_objNe XK J hne ?_)
    refine wpAny_call (codeAny_call_builtin PySem.F.cmp_object.ne.plain PySem.F.cmpEntry_ne (PySem.W.check_slot PySem.F.cmpKind_ne PySem.F.cmpSplit_ne (J.type.andThen (PySem.W.looks_mroIn XK hob)) (PySem.F.cmpArgs_ne _ _) (wpAny_mono entry (fun r s' z => ?_) fun _ _ e => e)))
    obtain ⟨w, rfl, hw, ep⟩ := z
    cases w <;> first | exact (hw rfl).elim | exact wpAny_pure ⟨_, rfl, ep⟩
  show wpAny _ _ (richCompare .NotEq (.ref a) u) _ _ _
  unfold richCompare
  simp only [oneThing_ref]
  refine wpAny_holding (wpAny_bind (wpAny_cRoomFor (by omega) ?_))
  refine wpAny_bind (J.type.here (wpAny_bind (hb.here ?_)))
  split
  · rename_i q
    have e : PySem.W.subIn X.K t (.ref C) = some false := by
      rcases Bool.or_eq_true_iff.mp hs with e | e
      · rw [beq_iff_eq.mp e] at q; simp at q
      · exact beq_iff_eq.mp e
    refine wpAny_bind ((PySem.W.looks_subIn XK e).here ?_)
    simp only [Bool.false_eq_true, if_false]
    refine wpAny_bind (m := tryCompare (.ref a) _ u) (wpAny_mono one (fun r s' z => ?_) fun _ _ e => e)
    obtain ⟨w, rfl, ep⟩ := z
    exact wpAny_pure ep
  · refine wpAny_bind (wpAny_pure ?_)
    simp only [Bool.false_eq_true, if_false]
    refine wpAny_bind (m := tryCompare (.ref a) _ u) (wpAny_mono one (fun r s' z => ?_) fun _ _ e => e)
    obtain ⟨w, rfl, ep⟩ := z
    exact wpAny_pure ep
/-- repr(o) by an own __repr__ -/
def rReprOwn (C : Addr) (sp : Sp) (E : XK) : List V → Hp → VK → Prop := fun xs H Q => ∃ a dx fs, xs = [V.ref a] ∧ H a = some (.ins C dx fs) ∧ sp [V.ref a] H (fun z H' => ∃ y : Str, z = .str y ∧ Q z H') E
theorem call_ownRepr (hm : Meth X.K C (Str.ofString "__repr__") f) (F : FnR X.prog X.w X.K X.mg X.base CX n f sp) (hr : Room (n + 1) X.A) (hx : Passes CX X E) : CallR X (.builtin "repr") (rReprOwn C sp E) := by
  intro pins s σ H xs us Q I r h
  obtain ⟨a, dx, fs, rfl, ha, q⟩ := h
  obtain ⟨u, rfl, ru⟩ := r.one
  cases (show u = Value.ref a from ru)
  obtain ⟨ox, od, J⟩ := ins_inst I ha
  obtain ⟨m, hF⟩ := I.fr
  refine PySem.W.repr_K (show Room n X.A.in1 from Room.in1 hr).units0 hF I.ok.mod.kin J hm.at_ hm.fn ?_
  refine wpAny_mono (wpAny_call (SlX.run_at (us := [.ref a]) (ws := [.ref a]) F (show Room n X.A.in1 from Room.in1 hr) I.env0.in1 hx I (.cons rfl .nil) q)) (fun w s' z => ?_) fun _ _ x => x
  obtain ⟨z', H', I', rz, y, ez, qz⟩ := z
  subst ez
  obtain ⟨t, e⟩ := (show ∃ t, w = Value.str y t from rz)
  cases e
  exact ⟨.str y, H', I', ⟨_, rfl⟩, qz⟩
end
/-! ### f-strings -/
def gFmt (x : V) (H1 : Hp) (Q : VK) : Prop := (∃ y : Str, x = .str y ∧ y.length ≤ sizeLine ∧ Q (.str y) H1) ∨ ∃ i : Int, x = .int i ∧ i.natAbs.log2 < 1920 ∧ Q (.str (toString i)) H1
section
variable {σ : L2.St} {H : Hp} {te : TE} {ts : List TE} {acc : Str} {Q : VK} {QS : Str → Hp → Prop} {t : TE} {y : Str} {i : Int} {R : Str → Prop}
theorem r_fmt (q : te σ H fun x H1 => gFmt x H1 Q) : tFmt te σ H Q := q
theorem fmt_s (hz : y.length ≤ sizeLine) (q : Q (.str y) H) : gFmt (.str y) H Q := .inl ⟨y, rfl, hz, q⟩
theorem fmt_i (hz : i.natAbs.log2 < 1920) (q : Q (.str (toString i)) H) : gFmt (.int i) H Q := .inr ⟨i, rfl, hz, q⟩
theorem js_nil (q : QS acc H) : tJs [] acc σ H QS := q
theorem js_cons (q : t σ H fun x H1 => ∃ y : Str, x = .str y ∧ (acc ++ y).length ≤ sizeLine ∧ tJs ts (acc ++ y) σ H1 QS) : tJs (t :: ts) acc σ H QS := q
theorem js_put (hz : acc.length + y.length ≤ sizeLine) (q : R y) : ∃ y', V.str y = .str y' ∧ (acc ++ y').length ≤ sizeLine ∧ R y' := ⟨y, rfl, by rw [str_len_app]; exact hz, q⟩
end
/-- how long the text of a number is -/
def It (i : Int) : Str := toString i
/-! ### sep.join(xs) -/
def gJoin (K : PySem.W.Frag) : V → List V → Hp → VK → Prop := fun x xs H Q => ∃ a p, ∃ ys : List Str, x = .str a ∧ xs = [.ref p] ∧ (SqL K H p (ys.map V.str) ∨ SqT K H p (ys.map V.str)) ∧ (ys.map (·.length)).sum + ys.length * a.length ≤ 16777216 ∧ Q (.str (Txt.join a ys)) H
theorem pe_gJoin {X : Cx} {K : PySem.W.Frag} {o e : Expr} {to te : TE} {apos pos : Pos} (hK : X.K = K) (ho : PE X o to) (he : PE X e te) (hs : starEach [e] X.env = [(false, eval e X.env)] := by rfl) (hbase : attributeBase o "join" X.env (eval o X.env) = eval o X.env := by rfl) (hline : (apos.endLine == pos.line) = true := by rfl) :
    PE X (.Call (.Attribute o "join" apos) [e] [] pos) (tM1 (gJoin K) to te) := by
  rw [← hK]
  exact pe_join ho he hs hbase hline
section
variable {σ : L2.St} {H : Hp} {l : List Asn} {to te : TE} {r : V → List V → Hp → VK → Prop} {Q : VK} {K : PySem.W.Frag} {p : Addr} {a : Str} {ys : List Str} {e : Nat} {P : Prop}
theorem r_m1 (q : to σ H fun x H1 => (∃ a, x = .str a) ∧ te σ H1 fun y H2 => r x [y] H2 Q) : tM1 r to te σ H Q := q
theorem r_isstr (q : P) : (∃ b, V.str a = .str b) ∧ P := ⟨⟨a, rfl⟩, q⟩
theorem sum_le : ∀ {xs : List Nat} {B : Nat}, (∀ x ∈ xs, x ≤ B) → xs.sum ≤ xs.length * B
  | [], _, _ => Nat.zero_le _
  | x :: xs, B, h => by
    have h1 := h x List.mem_cons_self
    have h2 := sum_le (xs := xs) (B := B) fun y hy => h y (List.mem_cons_of_mem _ hy)
    rw [List.sum_cons, List.length_cons, Nat.add_mul, Nat.one_mul]
    omega
theorem c_join {B : Nat} (S : Sep l H) (hi : l[e]? = some (At p (.lst (ys.map V.str)))) (hB : ∀ y ∈ ys, y.length ≤ B) (hz : ys.length * B + ys.length * a.length ≤ 16777216) (q : Q (.str (Txt.join a ys)) H) : gJoin K (.str a) [.ref p] H Q :=
  ⟨a, p, ys, rfl, rfl, .inl (SqL.of (S.at hi)), by
    have := sum_le (xs := ys.map (·.length)) (B := B) fun x hx => by
      obtain ⟨y, hy, e⟩ := List.mem_map.1 hx
      rw [← e]; exact hB y hy
    rw [List.length_map] at this
    omega, q⟩
theorem c_joinT {B : Nat} (S : Sep l H) (hi : l[e]? = some (Tp p (ys.map V.str))) (hB : ∀ y ∈ ys, y.length ≤ B) (hz : ys.length * B + ys.length * a.length ≤ 16777216) (q : Q (.str (Txt.join a ys)) H) : gJoin K (.str a) [.ref p] H Q :=
  ⟨a, p, ys, rfl, rfl, .inr (SqT.of (S.tp hi)), by
    have := sum_le (xs := ys.map (·.length)) (B := B) fun x hx => by
      obtain ⟨y, hy, e⟩ := List.mem_map.1 hx
      rw [← e]; exact hB y hy
    rw [List.length_map] at this
    omega, q⟩
end
theorem join_len {a : Str} {B : Nat} : ∀ {ys : List Str}, (∀ y ∈ ys, y.length ≤ B) → (Txt.join a ys).length ≤ ys.length * (B + a.length)
  | [], _ => Nat.zero_le _
  | [y], h => by
    have := h y List.mem_cons_self
    show y.length ≤ 1 * (B + a.length)
    omega
  | y :: z :: ys, h => by
    have h1 := h y List.mem_cons_self
    have h2 := join_len (a := a) (B := B) (ys := z :: ys) fun x hx => h x (List.mem_cons_of_mem _ hx)
    have e : Txt.join a (y :: z :: ys) = y ++ a ++ Txt.join a (z :: ys) := by
      rw [TL.join_eq, TL.join_eq]; rfl
    rw [e, str_len_app, str_len_app, List.length_cons, Nat.add_mul, Nat.one_mul]
    omega
theorem int_len {i : Int} {k : Nat} (hk : 0 < k) (h : i.natAbs < 2 ^ k) : (Str.ofString (toString i)).length ≤ k + 1 := by
  rw [PySem.ofString_length]
  exact int_text_length_le hk (PySem.Flt.log2_lt_of hk h)
end
local macro_rules | `(tactic| walk_at "v1") => `(tactic| (first
  | with_reducible refine r_fmt ?_
  | with_reducible refine js_nil ?_
  | with_reducible refine js_cons ?_
  | with_reducible refine r_m1 ?_
  | with_reducible refine r_isstr ?_))
section
variable {l : List Asn} {H : Hp} {K : PySem.W.Frag} {C p : Addr} {g : Str → Int} {e : Nat} {y : V} {t : Value} {sp : Sp} {E : XK} {Q : VK}
theorem x_co (S : Sep l H) (hi : l[e]? = some (Co p C g)) (ht : TyX K H y t) (hn : PySem.W.notFirst K C t = true) (k : sp [.ref p, y] H Q E) : rCmpX K C sp E (.ref p) y H Q := by
  obtain ⟨dx, fs, h⟩ := ins_co S hi
  exact ⟨p, dx, fs, t, rfl, h, ht, hn, k⟩
theorem x_coNe (S : Sep l H) (hi : l[e]? = some (Co p C g)) (ht : TyX K H y t) (hn : PySem.W.notFirst K C t = true) (k : sp [.ref p, y] H (fun z H' => ∃ c : Bool, z = .bl c ∧ Q (.bl (!c)) H') E) : rNeX K C sp E (.ref p) y H Q := by
  obtain ⟨dx, fs, h⟩ := ins_co S hi
  exact ⟨p, dx, fs, t, rfl, h, ht, hn, k⟩
theorem rp_co (S : Sep l H) (hi : l[e]? = some (Co p C g)) (k : sp [.ref p] H (fun z H' => ∃ y : Str, z = .str y ∧ Q z H') E) : rReprOwn C sp E [.ref p] H Q := by
  obtain ⟨dx, fs, h⟩ := ins_co S hi
  exact ⟨p, dx, fs, rfl, h, k⟩
end
/-- truth of a word about anything -/
noncomputable def dP (P : Prop) : Bool := @decide P (Classical.propDecidable P)
theorem dP_iff {P : Prop} : dP P = true ↔ P := by
  unfold dP
  exact @decide_eq_true_iff P (Classical.propDecidable P)
theorem dP_of {P : Prop} {b : Bool} (h : b = true ↔ P) : b = dP P := by
  cases b with
  | true => exact (dP_iff.2 (h.1 rfl)).symm
  | false =>
    cases e : dP P with
    | false => rfl
    | true => exact h.2 (dP_iff.1 e)

/-! rules: what is read of them, their methods -/
section
open PyProof.Rows
theorem PE.or {X : Cx} {e : Expr} {t u : TE} (h : PE X e t) (k : PE X e u) : PE X e (fun σ H Q => t σ H Q ∨ u σ H Q) :=
  ⟨fun pins s σ H Q I q => q.elim (h.run pins s σ H Q I) (k.run pins s σ H Q I)⟩
theorem lkN3 {f : Str} {a b c : V} (h1 : (f == ("least" : Str)) = false) (h2 : (f == ("most" : Str)) = false) (h3 : (f == ("kinds" : Str)) = false) : List.lookup f [(("least" : Str), a), (("most" : Str), b), (("kinds" : Str), c)] = none := by
  show (match f == ("least" : Str) with | true => some a | false => (match f == ("most" : Str) with | true => some b | false => (match f == ("kinds" : Str) with | true => some c | false => none))) = none
  rw [h1, h2, h3]
section
variable {l : List Asn} {H : Hp} {p C : Addr} {a b : V} {ks : List V} {e : Nat} {K : PySem.W.Frag} {Q : VK} {f : Str} {R : Prop}
theorem ru_at (S : Sep l H) (hi : l[e]? = some (Ru p C a b ks)) : ∃ dx t, H p = some (.ins C dx [("least", a), ("most", b), ("kinds", .ref t)]) ∧ H t = some (.tup ks) := by
  obtain ⟨t, S1⟩ := ru_open (S.pick hi)
  obtain ⟨dx, h⟩ := ob_at S1 (e := 0) rfl
  exact ⟨dx, t, h, S1.tp (i := 1) rfl⟩
theorem f_ruL (S : Sep l H) (hi : l[e]? = some (Ru p C a b ks)) (hC : Kl K C rNs) (q : Q a H) : gFldR K "least" (.ref p) H Q := by
  obtain ⟨dx, t, h, _⟩ := ru_at S hi
  exact ⟨p, C, dx, _, a, rfl, h, hC.c, hC.n "least" (by decide), lk0, q⟩
theorem f_ruM (S : Sep l H) (hi : l[e]? = some (Ru p C a b ks)) (hC : Kl K C rNs) (q : Q b H) : gFldR K "most" (.ref p) H Q := by
  obtain ⟨dx, t, h, _⟩ := ru_at S hi
  exact ⟨p, C, dx, _, b, rfl, h, hC.c, hC.n "most" (by decide), lkS (by decide +kernel) lk0, q⟩
theorem f_ruK (S : Sep l H) (hi : l[e]? = some (Ru p C a b ks)) (hC : Kl K C rNs) (k : ∀ t, Sep (Tp t ks :: l) H → Q (.ref t) H) : gFldR K "kinds" (.ref p) H Q := by
  obtain ⟨dx, t, h, ht⟩ := ru_at S hi
  exact ⟨p, C, dx, _, _, rfl, h, hC.c, hC.n "kinds" (by decide), lkS (by decide +kernel) (lkS (by decide +kernel) lk0), k t (S.addT ht)⟩
theorem m_ru (S : Sep l H) (hi : l[e]? = some (Ru p C a b ks)) (h1 : (f == ("least" : Str)) = false) (h2 : (f == ("most" : Str)) = false) (h3 : (f == ("kinds" : Str)) = false) (q : R) : gM C f (.ref p) H R := by
  obtain ⟨dx, t, h, _⟩ := ru_at S hi
  exact ⟨p, dx, _, rfl, h, lkN3 h1 h2 h3, q⟩
theorem i_ru {D : Addr} {c : Bool} (S : Sep l H) (hi : l[e]? = some (Ru p C a b ks)) (hC : Kl K C rNs) (ki : Ki K C) (hk : PySem.W.kitOne K (.ref C) (.ref D) = some c) (q : Q (.bl c) H) : gIsi K [.ref p, .ref D] H Q := by
  obtain ⟨dx, t, h, _⟩ := ru_at S hi
  exact i_one (.own D) (.base (.ins h hC.c ki.ha ki.hn ki.ht ki.hm)) hk q
end
end
local macro_rules | `(tactic| walk_at "v1") => `(tactic| (first
  | ((with_reducible refine' f_ruL (by assumption) ?hi ?hC ?_); (case hi => walk_at "has"); (case hC => assumption))
  | ((with_reducible refine' f_ruM (by assumption) ?hi ?hC ?_); (case hi => walk_at "has"); (case hC => assumption))
  | ((with_reducible refine' f_ruK (by assumption) ?hi ?hC ?_); (case hi => walk_at "has"); (case hC => assumption); intro _ _)
  | ((with_reducible refine' m_ru (by assumption) ?hi ?h1 ?h2 ?h3 ?_); (case hi => walk_at "has"); (case h1 => decide +kernel); (case h2 => decide +kernel); (case h3 => decide +kernel))))
/-! [e for x in t], t a tuple -/
section
variable {σ : L2.St} {H : Hp} {K : PySem.W.Frag} {g : TG} {te ta : TE} {tt : TT} {vs : List Nat} {Q : VK} {l : List Asn} {p : Addr} {xs : List V}
theorem lcT {e : Nat} (S : Sep l H) (hi : l[e]? = some (Tp p xs)) (Pv : Addr → Nat → Hp → Prop) (h0 : ∀ D H', Sep (At D (.lst []) :: l) H' → Pv D 0 H') (hl : ∀ D i H, Pv D i H → H p = some (.tup xs))
    (hs : ∀ D i x H, xs[i]? = some x → Pv D i H → LcT g tt ta vs σ x D (Pv D (i + 1)) H) (hd : ∀ D H, Pv D xs.length H → Q (.ref D) H) : ∃ a, V.ref p = .ref a ∧ (∃ xs, SqT K H a xs) ∧ LcB (Itt K a) g tt ta vs σ H Q :=
  ⟨p, rfl, ⟨xs, SqT.of (S.tp hi)⟩, fun D hD => lc_tup (K := K) (Pv D) (h0 D _ (S.new hD)) (fun i H _ q => SqT.of (hl D i H q)) (hs D) (hd D)⟩
end
/-- sum(xs) -/
def gSum (K : PySem.W.Frag) : List V → Hp → VK → Prop := rSum K
theorem call_gSum {X : Cx} {K : PySem.W.Frag} (hK : X.K = K) (hc : X.calm = true) : CallR X (.builtin "sum") (gSum K) := by rw [← hK]; exact cr_sum hc
section
variable {l : List Asn} {H : Hp} {K : PySem.W.Frag} {Q : VK} {p : Addr} {e : Nat}
theorem c_sum {ns : List Int} (S : Sep l H) (hi : l[e]? = some (At p (.lst (ns.map V.int)))) (q : Q (.int ns.sum) H) : gSum K [.ref p] H Q := ⟨p, ns, rfl, SqL.of (S.at hi), q⟩
end
local macro_rules | `(tactic| walk_at "v1") => `(tactic| ((with_reducible refine' c_sum (by assumption) ?hi ?_); (case hi => walk_at "has")))
theorem is_nn {P : Bool → Prop} (q : P true) : P (decide (V.non = V.non)) := by rw [decide_eq_true rfl]; exact q
theorem is_in {n : Int} {P : Bool → Prop} (q : P false) : P (decide (V.int n = V.non)) := by rw [decide_eq_false (fun z => nomatch z)]; exact q

/-! own errors: made, raised, caught -/
theorem SepF.ext {l : List Asn} {g : Addr → Prop} {H H' : Hp} (S : SepF l g H) (h : ∀ b o, H b = some o → H' b = some o) : SepF l g H' :=
  S.st (fun a z => by
    obtain ⟨o, e⟩ := S.al a z
    rw [e]; exact h a o e) fun b xs e => h b _ e
theorem Sep.ext {l : List Asn} {H H' : Hp} (S : Sep l H) (h : ∀ b o, H b = some o → H' b = some o) : Sep l H' := by
  obtain ⟨g, S⟩ := S
  exact ⟨g, S.ext h⟩
theorem Sep.ext1 {l : List Asn} {H H' : Hp} {d : Addr} {o : HO} (S : Sep l H) (h : ∀ b o, H b = some o → H' b = some o) (hd : H d = none) (hd' : H' d = some o) : Sep (At d o :: l) H' := by
  obtain ⟨g, S⟩ := S
  refine ⟨_, .cons (f := fun a => a = d) ⟨hd', fun _ => Iff.rfl⟩ (S.ext h) fun a z w => ?_⟩
  obtain ⟨u, e⟩ := S.al a w
  rw [z, hd] at e
  cases e
/-- __init__ of an error with one field f -/
def sp_exi (K : PySem.W.Frag) (f : Str) : Sp := fun vs H Q _ => ∃ (a C : Addr) (x : V), vs = [.ref a, x] ∧ OexC K C ∧ PySem.W.findIn K (.ref C) f = some none ∧ H a = some (exo a C none) ∧
  ∀ dx, H dx = none → dx ≠ a → Q .non (upd (upd H dx (exd dx [(f, x)])) a (exo a C (some dx)))
section
variable {σ : L2.St} {H : Hp} {K : PySem.W.Frag} {to te : TE} {ta : TA} {f : Str} {nx bk ct : L2.St → Hp → Prop} {rt : VK} {Q : VK} {l : List Asn} {C : Addr} {x : V} {W : WX} {sp : Sp} {dvs : List V}
def tOstK (K : PySem.W.Frag) (f : Str) (to te : TE) : TS := tOst K f to te
theorem ps_gOst {X : Cx} {o e : Expr} {p' pos : Pos} (hK : X.K = K) (ho : PE X o to) (he : PE X e te) (hs : swapsWith e (some (.Attribute o f p')) pos.line X.env = pure false := by rfl) : PS X (.Assign [.Attribute o f p'] e pos) (tOstK K f to te) := by
  rw [← hK]; exact ps_ost ho he hs
theorem r_ost (q : te σ H fun y H1 => to σ H1 fun x H2 => ∃ a C : Addr, x = .ref a ∧ OexC K C ∧ PySem.W.findIn K (.ref C) f = some none ∧
  ((H2 a = some (exo a C none) ∧ ∀ dx, H2 dx = none → dx ≠ a → nx σ (upd (upd H2 dx (exd dx [(f, y)])) a (exo a C (some dx)))) ∨
    ∃ (dx : Addr) (fs : List (Str × V)), H2 a = some (exo a C (some dx)) ∧ H2 dx = some (exd dx fs) ∧ fs.length ≤ 900 ∧ nx σ (upd H2 dx (exd dx ((f, y) :: fs))))) : tOstK K f to te ⟨nx, rt, bk, ct⟩ σ H := q
/-- what C(x) asks where it is raised -/
@[irreducible] def gMkO (C : Addr) (sp : Sp) (dvs vs : List V) (H1 : Hp) (Q : XK) : Prop := vs.length ≤ 1000 ∧ ∀ a, H1 a = none → sp (.ref a :: (vs ++ dvs)) (upd H1 a (exo a C none))
  (fun v H2 => v = .non ∧ ∃ (d : Addr) (fs : List (Str × V)), H2 a = some (exo a C (some d)) ∧ H2 d = some (exd d fs) ∧ H1 d = none ∧ Q (.ref C) (some d) (upd (del H2 a) d (.xd fs))) (fun _ _ _ => False)
theorem mk_one {Q : XK} (S : Sep l H) (T : OexC K C) (hno : PySem.W.findIn K (.ref C) f = some none) (k : ∀ d H', Sep (At d (.xd [(f, x)]) :: l) H' → Q (.ref C) (some d) H') : gMkO C (sp_exi K f) [] [x] H Q := by
  unfold gMkO
  refine ⟨by show 1 ≤ 1000; decide, fun a ha => ⟨a, C, x, rfl, T, hno, upd_same, fun dx hdx hne => ⟨rfl, dx, [(f, x)], upd_same, by rw [upd_ne hne]; exact upd_same, ?_, ?_⟩⟩⟩
  · rw [upd_ne hne] at hdx; exact hdx
  · have hd1 : H dx = none := by rw [upd_ne hne] at hdx; exact hdx
    refine k dx _ (S.ext1 (fun b o e => ?_) hd1 upd_same)
    have hb : b ≠ dx := fun z => by rw [z, hd1] at e; cases e
    have hba : b ≠ a := fun z => by rw [z, ha] at e; cases e
    rw [upd_ne hb, del_ne hba, upd_ne hba, upd_ne hb, upd_ne hba]
    exact e
/-- raise C(..) -/
def tRaise (C : Addr) (sp : Sp) (dvs : List V) (ta : TA) (W : WX) : TS := fun _ σ H => ta σ H fun vs H1 => gMkO C sp dvs vs H1 fun cls d H' => W cls d σ H'
theorem ps_gRaise {X : Cx} {e : Expr} {pos : Pos} (hc : X.calm = true) (tk : Takes X W) (he : PMk X e (tMkO C sp dvs ta)) : PS X (.Raise (some e) none pos) (tRaise C sp dvs ta W) := by
  have h := ps_raise (pos := pos) hc tk he
  unfold tRaise gMkO
  exact h
theorem r_raise {D : L2.Ends} (q : ta σ H fun vs H1 => gMkO C sp dvs vs H1 fun cls d H' => W cls d σ H') : tRaise C sp dvs ta W D σ H := q
/-- try .. except C: .. -/
def tTry (K : PySem.W.Frag) (c : Value) (tb : WX → TS) (ts : Addr → Value → Option Addr → TS) (Wout : WX) : TS := fun D σ H => tb (wOnly K c ts Wout D) D σ H
theorem ps_gTry {X : Cx} {x : Str} {c : Value} {body suite : List Stmt} {b₀ : Stmt} {np pos pos' : Pos} {tb : WX → TS} {ts : Addr → Value → Option Addr → TS} {Wout : WX} (hK : X.K = K) (hs : X.stack = X.env :: X.outer) (hf : X.env.frame = some X.env.locals) (hc : Names X x c) (tk : Takes X Wout)
    (hb : ∀ (W : WX) (pn : List (Addr × Obj)) (xe : Value → Shared → Prop), Takes (X.tr pn xe) W → PassesOwn (model X.prog X.w) X.A X.env xe → PSs (X.tr pn xe) body (tb W))
    (hsu : ∀ (a : Addr) (oe : Obj) (cls : Value) (d : Option Addr) (pn : List (Addr × Obj)), Zc cls d oe → (∃ vs, oe.data = .fields vs) → PSs (X.suite a ((a, oe) :: pn)) (b₀ :: suite) (ts a cls d)) :
    PS X (.Try body [.ExceptHandler (some (.Name x np)) none (b₀ :: suite) pos'] [] [] pos) (tTry K c tb ts Wout) := by
  rw [← hK]; exact ps_try_only hs hf hc tk hb hsu
theorem r_try {c : Value} {tb : WX → TS} {ts : Addr → Value → Option Addr → TS} {Wout : WX} (q : tb (wOnly K c ts Wout ⟨nx, rt, bk, ct⟩) ⟨nx, rt, bk, ct⟩ σ H) : tTry K c tb ts Wout ⟨nx, rt, bk, ct⟩ σ H := q
theorem w_only {c cls : Value} {d : Option Addr} {ts : Addr → Value → Option Addr → TS} {Wout : WX} {D : L2.Ends} (h : PySem.W.exmOne K cls c = some true) (k : ∀ a, H a = none → ts a cls d D σ H) : wOnly K c ts Wout D cls d σ H :=
  ⟨true, h, fun _ => k, fun z => nomatch z⟩
end
/-- an error of the class C meets the clause except S -/
theorem exm_pair {K : PySem.W.Frag} {C S : Addr} {b : Bool} (h1 : PySem.W.subIn K (.ref S) (.type "BaseException") = some true) (h2 : PySem.W.isClsIn K S = true) (h3 : PySem.W.typeIn K (.ref S) = some (.type "type")) (h4 : PySem.W.subIn K (.ref C) (.ref S) = some b) : PySem.W.exmOne K (.ref C) (.ref S) = some b := by
  have h5 : (PySem.W.clsIn K S).isSome = true := h2
  unfold PySem.W.exmOne
  simp [h1, h3, h5, h4, PySem.W.kitCls]
open PyProof.Rows in
/-- as fun_star, for a def that may raise -/
theorem fun_starX {P : Program} {w : World} {K : PySem.W.Frag} {mg : Str → Option Value} {base : Heap} {x qual : Str} {st : Stmt} {f : Addr} {fd : FuncData} {N ps : List Str} {pv : Str} {k : Nat} {sp : Sp} (F : Fun K x qual st f fd) (S : FnScope N (ps ++ [pv]) (defScope st))
    (hb : ∀ (kV doc pm : Value) (an : Option Addr) (cdv ct : Value) (us rest : List Value), us.length = ps.length → bindArgs (PySem.W.fnOf x qual (defArgs st) (defBody st) (defScope st) .none kV doc pm an cdv ct) ⟨us ++ rest, []⟩ = (newTuple rest >>= fun t => pure (ps.zip us ++ [(pv, t)])))
    (hbody : ∀ (cdv : Value) (A : Around) (outer : List Env) (s : Shared) (H : Hp) (vs : List V) (Q : VK) (E : XK), Room k (A.deeper (envOfC qual (defScope st) s.heap.objs.size f cdv)) → sp vs H Q E →
      ∃ t, PSs (cxOf (L2.CX P w) P w K mg base N qual (defScope st) f cdv A outer s H E) (defBody st) t ∧ t { nx := fun _ H' => Q .non H', rt := Q } (start N vs) H) : FnR P w K mg base (L2.CX P w) (k + 1) f (stSp ps.length sp) := by
  obtain ⟨oc, od, kV, doc, pm, an, cdv, ct, osl, rfl, lk, hcd⟩ := F.ex
  exact StX.fn_star lk hcd S StX.cxUp (hb kV doc pm an cdv ct) fun A outer s H vs Q E hr hsp => hbody cdv A outer s H vs Q E hr hsp
local macro_rules | `(tactic| walk_at "v1") => `(tactic| (first
  | with_reducible refine r_raise ?_
  | with_reducible refine r_ost ?_
  | with_reducible refine r_try ?_))

/-! except .. as e: its fields, its class -/
/-- isinstance(e, c), e a caught error with a dict -/
def rIsD (K : PySem.W.Frag) (D a : Addr) (cls : Value) (d : Option Addr) : List V → Hp → VK → Prop := fun zs H Q => ∃ (c : V) (cv : Value) (b : Bool) (dd : Addr) (fs : List (Str × V)), zs = [.ref a, c] ∧ cls = .ref D ∧ d = some dd ∧ H dd = some (.xd fs) ∧ ClsV c cv ∧ PySem.W.kitOne K (.ref D) cv = some b ∧ Q (.bl b) H
theorem call_isD {X : Cx} {K : PySem.W.Frag} (hK : X.K = K) {a D : Addr} {oe : Obj} {cls : Value} {d : Option Addr} {pn : List (Addr × Obj)} (T : ExcC K D) (hz : Zc cls d oe) (hf : ∃ vs, oe.data = .fields vs) : CallR (X.suite a ((a, oe) :: pn)) (.builtin "isinstance") (rIsD K D a cls d) := by
  subst hK
  intro ps s0 σ0 H0 zs us Q0 I0 r0 h0
  obtain ⟨c, cv, b, dd, fs, rfl, ec, ed, hd, hcv, e, q⟩ := h0
  obtain ⟨u1, u2, rfl, r1, r2⟩ := r0.two
  cases (show u1 = Value.ref a from r1)
  cases hcv.eq r2
  subst ec ed
  have hp := (I0.pin (a, oe) (by simp [Cx.suite])).1
  obtain ⟨fv, hv⟩ := hf
  have ho : ObjOk X.prog X.w H0 s0.heap dd (.xd fs) := I0.hok dd _ hd
  obtain ⟨mA, hns, _⟩ := ho
  obtain ⟨od, hod, _⟩ := lookIn_ns hns
  have J : PySem.W.InstAt s0.heap a oe D (some od) := ⟨hp, hz.1, by unfold PySem.W.notCls; rw [hv], by rw [hz.2]; exact hod⟩
  have hcl : (PySem.W.clsIn X.K D).isSome = true := by
    obtain ⟨cd, hc, _⟩ := PySem.W.any_some T.hd
    rw [hc]; rfl
  exact PySem.W.kia_one (PySem.W.kitx_exc hcl T.hg T.hk T.hs T.ha T.hn T.ht T.hm) I0.kIn J e (by intro z; cases z) fun tk => ⟨.bl b, H0, I0.kept (t' := tk) (fun _ _ z => z), rfl, q⟩
/-- e.f, e a caught error -/
def gXf (a : Addr) (cls : Value) (d : Option Addr) (C : Addr) (f : Str) (x : V) (H1 : Hp) (Q : VK) : Prop := x = .ref a ∧ cls = .ref C ∧ ∃ (dd : Addr) (fs : List (Str × V)) (v : V), d = some dd ∧ H1 dd = some (.xd fs) ∧ fs.lookup f = some v ∧ Q v H1
section
variable {σ : L2.St} {H : Hp} {K : PySem.W.Frag} {te : TE} {ta : TA} {f : Str} {nx bk ct : L2.St → Hp → Prop} {rt : VK} {Q : VK} {l : List Asn} {C D : Addr} {x v : V} {W : WX} {sp : Sp} {i j : Nat} {a dd : Addr} {fs : List (Str × V)}
theorem r_xf {cls : Value} {d : Option Addr} (q : te σ H fun x H1 => gXf a cls d C f x H1 Q) : tXf a cls d C f te σ H Q := q
theorem x_xf (S : Sep l H) (hi : l[i]? = some (At dd (.xd fs))) (hf : fs.lookup f = some v) (q : Q v H) : gXf a (.ref C) (some dd) C f (.ref a) H Q := ⟨rfl, rfl, dd, fs, v, rfl, S.at hi, hf, q⟩
theorem c_isD {c : V} {cv : Value} {b : Bool} (S : Sep l H) (hi : l[i]? = some (At dd (.xd fs))) (hc : ClsV c cv) (hk : PySem.W.kitOne K (.ref D) cv = some b) (q : Q (.bl b) H) : rIsD K D a (.ref D) (some dd) [.ref a, c] H Q := ⟨c, cv, b, dd, fs, rfl, rfl, rfl, S.at hi, hc, hk, q⟩
theorem pe_gXf {X : Cx} (hK : X.K = K) {oe : Obj} {cls : Value} {d : Option Addr} {pn : List (Addr × Obj)} {e : Expr} {pos : Pos} {n : Str} (T : XfC K C) (hno : PySem.W.findIn K (.ref C) n = some none) (hz : Zc cls d oe) (hf : ∃ vs, oe.data = .fields vs) (he : PE (X.suite a ((a, oe) :: pn)) e te) (hb : attributeBase e n X.env (eval e X.env) = eval e X.env := by rfl) :
    PE (X.suite a ((a, oe) :: pn)) (.Attribute e n pos) (tXf a cls d C n te) := by subst hK; exact pe_xf T hno hz hf he hb
/-- try .. except C as e: .. (e in slot i) -/
def tTryAs (K : PySem.W.Frag) (c : Value) (i : Nat) (tb : WX → TS) (ts : Addr → Value → Option Addr → TS) (Wout : WX) : TS := fun D σ H => tb (wAs K c i ts Wout D) D σ H
theorem ps_gTryAs {X : Cx} {x n : Str} {c : Value} {body suite : List Stmt} {b₀ : Stmt} {np p1 p2 : Pos} {tb : WX → TS} {ts : Addr → Value → Option Addr → TS} {Wout : WX} (hK : X.K = K) (hs : X.stack = X.env :: X.outer) (hf : X.env.frame = some X.env.locals) (hN : X.N.Nodup) (hi : X.N[i]? = some n) (hln : X.env.kindOf n = some .local) (hc : Names X x c) (tk : Takes X Wout)
    (hb : ∀ (W : WX) (pn : List (Addr × Obj)) (xe : Value → Shared → Prop), Takes (X.tr pn xe) W → PassesOwn (model X.prog X.w) X.A X.env xe → PSs (X.tr pn xe) body (tb W))
    (hsu : ∀ (a : Addr) (oe : Obj) (cls : Value) (d : Option Addr) (pn : List (Addr × Obj)), Zc cls d oe → (∃ vs, oe.data = .fields vs) → PSs (X.suite a ((a, oe) :: pn)) (b₀ :: suite) (ts a cls d)) :
    PS X (.Try body [.ExceptHandler (some (.Name x np)) (some n) (b₀ :: suite) p2] [] [] p1) (tTryAs K c i tb ts Wout) := by
  subst hK; exact ps_try_as hs hf hN hi hln hc tk hb hsu
theorem r_tryAs {c : Value} {tb : WX → TS} {ts : Addr → Value → Option Addr → TS} {Wout : WX} (q : tb (wAs K c i ts Wout ⟨nx, rt, bk, ct⟩) ⟨nx, rt, bk, ct⟩ σ H) : tTryAs K c i tb ts Wout ⟨nx, rt, bk, ct⟩ σ H := q
theorem w_as {c cls : Value} {d : Option Addr} {ts : Addr → Value → Option Addr → TS} {Wout : WX} (h : PySem.W.exmOne K cls c = some true) (k : ∀ a, H a = none → ts a cls d ⟨fun σ' H' => nx (σ'.set i none) H', rt, fun σ' H' => bk (σ'.set i none) H', fun σ' H' => ct (σ'.set i none) H'⟩ (σ.set i (some (.ref a))) H) : wAs K c i ts Wout ⟨nx, rt, bk, ct⟩ cls d σ H :=
  ⟨true, h, fun _ => k, fun z => Bool.noConfusion z⟩
theorem r_callS {E : L2.St → XK} (q : ta σ H fun vs H1 => sp vs H1 Q (E σ)) : tCallS sp E ta σ H Q := q
/-- a, b, .. = a list -/
def gLstK (K : PySem.W.Frag) (n : Nat) (t : TGs) : TG := gLst K n t
theorem pg_gLst {X : Cx} {pos : Pos} {es : List Expr} {k : Nat} {t : TGs} {n : Nat} (hK : X.K = K) (hc : X.calm = true) (h : PGs X es t) (hn : (assignEach es X.env).length = n := by rfl) (hst : (assignEach es X.env).findIdx? (·.1) = none := by rfl) : PG X (.Tuple es k pos) (gLstK K n t) := by
  subst hK; exact pg_lst hc h hn hst
theorem g_lstK {t : TGs} {p : Addr} {xs : List V} {R : L2.St → Hp → Prop} (S : Sep l H) (hi : l[j]? = some (At p (.lst xs))) (hz : xs.length = i) (q : t xs σ H R) : gLstK K i t (.ref p) σ H R := ⟨p, xs, rfl, SqL.of (S.at hi), hz, q⟩
end
/-- a value that is known: plain, or a list that stands in the frame -/
def Lx (fr : List Asn) (x : V) : Prop := (∃ n, x = .int n) ∨ (∃ b, x = .bl b) ∨ x = .non ∨ (∃ w : Str, x = .str w ∧ w.length ≤ 3000) ∨ ∃ (p : Addr) (ys : List V) (i : Nat), x = .ref p ∧ fr[i]? = some (At p (.lst ys))
theorem Lx.up {fr : List Asn} {x : V} {A : Asn} (h : Lx fr x) : Lx (A :: fr) x := by
  rcases h with h | h | h | h | ⟨p, ys, i, h1, h2⟩
  · exact .inl h
  · exact .inr (.inl h)
  · exact .inr (.inr (.inl h))
  · exact .inr (.inr (.inr (.inl h)))
  · exact .inr (.inr (.inr (.inr ⟨p, ys, i + 1, h1, h2⟩)))
theorem lx_str {fr : List Asn} {w : Str} (h : w.length ≤ 3000) : Lx fr (.str w) := .inr (.inr (.inr (.inl ⟨w, rfl, h⟩)))
theorem lx_int {fr : List Asn} {n : Int} : Lx fr (.int n) := .inl ⟨n, rfl⟩
theorem Lx.int? {K : PySem.W.Frag} {H : Hp} {fr : List Asn} {x : V} (h : Lx fr x) (S : Sep fr H) : (∃ n, x = .int n) ∨ (∃ b, x = .bl b) ∨ ((∃ t, TyX K H x t ∧ PySem.W.kitOne K t (.type "int") = some false) ∧ ∀ n, x ≠ .int n) := by
  rcases h with ⟨n, rfl⟩ | ⟨b, rfl⟩ | rfl | ⟨w, rfl, _⟩ | ⟨p, ys, i, rfl, hi⟩
  · exact .inl ⟨n, rfl⟩
  · exact .inr (.inl ⟨b, rfl⟩)
  · exact .inr (.inr ⟨⟨_, .base .non, kit_ty k_ni⟩, fun _ z => nomatch z⟩)
  · exact .inr (.inr ⟨⟨_, .base (.str w), kit_ty k_si⟩, fun _ z => nomatch z⟩)
  · exact .inr (.inr ⟨⟨_, .base (.lst (S.at hi)), kit_ty k_li⟩, fun _ z => nomatch z⟩)
theorem Lx.str? {K : PySem.W.Frag} {H : Hp} {fr : List Asn} {x : V} (h : Lx fr x) (S : Sep fr H) : (∃ w : Str, x = .str w ∧ w.length ≤ 3000) ∨ ((∃ t, TyX K H x t ∧ PySem.W.kitOne K t (.type "str") = some false) ∧ ∀ w, x ≠ .str w) := by
  rcases h with ⟨n, rfl⟩ | ⟨b, rfl⟩ | rfl | ⟨w, rfl, h⟩ | ⟨p, ys, i, rfl, hi⟩
  · exact .inr ⟨⟨_, .base (.int n), kit_ty k_is⟩, fun _ z => nomatch z⟩
  · exact .inr ⟨⟨_, .base (.bl b), kit_ty k_bs⟩, fun _ z => nomatch z⟩
  · exact .inr ⟨⟨_, .base .non, kit_ty k_ns⟩, fun _ z => nomatch z⟩
  · exact .inl ⟨w, rfl, h⟩
  · exact .inr ⟨⟨_, .base (.lst (S.at hi)), kit_ty k_ls⟩, fun _ z => nomatch z⟩
/-- the parts of a rule, good or bad -/
def okN (x : V) : Prop := ∃ n : Int, x = .int n ∧ 0 ≤ n ∧ n < 10
def okK (x : V) : Prop := ∃ w : Str, x = .str w ∧ Kd w
def BadN (ns : List V) : Prop := (∃ x ∈ ns, ¬ okN x) ∨ ∃ a b : Int, ns = [.int a, .int b] ∧ b < a
def BadK (ks : List V) : Prop := ¬ (1 ≤ ks.length ∧ ks.length ≤ 3) ∨ (∃ x ∈ ks, ¬ okK x) ∨ ¬ ks.Nodup
def Ver (ns ks : List V) (r : Option Str) : Prop := (BadN ns ∧ r = some "number") ∨ (¬ BadN ns ∧ BadK ks ∧ r = some "kinds") ∨ (¬ BadN ns ∧ ¬ BadK ks ∧ r = none)
theorem okN_int {n : Int} : okN (.int n) ↔ 0 ≤ n ∧ n < 10 := ⟨fun ⟨m, e, h⟩ => by cases e; exact h, fun h => ⟨n, rfl, h⟩⟩
theorem okK_str {w : Str} : okK (.str w) ↔ Kd w := ⟨fun ⟨m, e, h⟩ => by cases e; exact h, fun h => ⟨w, rfl, h⟩⟩
theorem oks_strs : ∀ {ks : List V}, (∀ x ∈ ks, okK x) → ∃ ws : List Str, ks = ws.map V.str ∧ ∀ w ∈ ws, Kd w
  | [], _ => ⟨[], rfl, fun _ z => nomatch z⟩
  | x :: ks, h => by
    obtain ⟨w, rfl, hw⟩ := h x List.mem_cons_self
    obtain ⟨ws, rfl, hs⟩ := oks_strs fun y hy => h y (List.mem_cons_of_mem _ hy)
    refine ⟨w :: ws, rfl, fun v hv => ?_⟩
    rcases List.mem_cons.1 hv with rfl | hv
    · exact hw
    · exact hs v hv
local macro_rules | `(tactic| walk_at "v1") => `(tactic| (first
  | with_reducible refine r_xf ?_
  | with_reducible refine r_tryAs ?_
  | with_reducible refine r_callS ?_
  | ((with_reducible refine' x_xf (by assumption) ?hi ?hf ?_); (case hi => walk_at "has"); (case hf => exact lk0))
  | ((with_reducible refine' g_lstK (by assumption) ?hi ?hz ?_); (case hi => walk_at "has"); (case hz => rfl))))

/-! **kw with names given -/
section
open PyProof.Rows
theorem prs_snoc {P : Program} {w : World} {e : DictEntry} {q : Key × Value} : ∀ {es : List DictEntry} {kvs : List (Key × Value)}, PySem.Pairs (mixKind P w) es kvs → (mixKind P w).is q.1 e.key = true → e.val = q.2 → PySem.Pairs (mixKind P w) (es ++ [e]) (kvs ++ [q])
  | _, _, .nil, h1, h2 => .cons h1 h2 .nil
  | _, _, .cons a b r, h1, h2 => .cons a b (prs_snoc r h1 h2)
theorem prs_mem {P : Program} {w : World} : ∀ {es : List DictEntry} {kvs : List (Key × Value)}, PySem.Pairs (mixKind P w) es kvs → ∀ e ∈ es, ∃ q ∈ kvs, (mixKind P w).is q.1 e.key = true
  | _, _, .nil, _, z => nomatch z
  | _, _, .cons a b r, e, z => by
    rcases List.mem_cons.1 z with rfl | z
    · exact ⟨_, List.mem_cons_self, a⟩
    · obtain ⟨q, hq, h⟩ := prs_mem r e z
      exact ⟨q, List.mem_cons_of_mem _ hq, h⟩
/-- a new name put into a dict -/
theorem ns_put {P : Program} {w : World} {A : Around} {E : Value → Shared → Prop} {s : Shared} {a : Addr} {kvs : List (Key × Value)} {x : Str} {u : Value} {Q : Unit → Shared → Prop} (dd : s.heap.DictOf (mixKind P w) a kvs) (hx : ∀ q ∈ kvs, q.1 ≠ .inr x)
    (h : ∀ h', h'.DictOf (mixKind P w) a (kvs ++ [(.inr x, u)]) → (∀ b, b ≠ a → h'.get? b = s.heap.get? b) → h'.objs.size = s.heap.objs.size → Q () { s with heap := h', toks := s.toks + 1 }) : wpAny (model P w) A (nsSet a x u) Q E s := by
  obtain ⟨o, es, ep, ho, hxd, hd, hk, hp, hn⟩ := dd
  have hno : ∀ e ∈ es, e.key.isStr x = false := fun e he => by
    obtain ⟨q, hq, hi⟩ := prs_mem hp e (Array.mem_toList_iff.2 he)
    cases hs : e.key.isStr x
    · rfl
    · exfalso
      rcases keyIs_shape hi with ⟨i, t, e1, e2⟩ | ⟨y, t, e1, e2⟩
      · rw [e2] at hs; simp [Value.isStr] at hs
      · rw [e2] at hs
        have : y = x := by simpa [Value.isStr] using hs
        exact hx q hq (by rw [e1, this])
  have hni : es.findIdx? (fun e => e.key.isStr x) = none := by
    rw [Array.findIdx?_eq_none_iff]
    exact fun e he => hno e he
  have hrk : es.any (·.refKey) = false := by
    rw [Array.any_eq_false']
    intro e he
    obtain ⟨q, hq, hi⟩ := prs_mem hp e (Array.mem_toList_iff.2 he)
    rcases keyIs_shape hi with ⟨i, t, _, e2⟩ | ⟨y, t, _, e2⟩ <;> simp [DictEntry.refKey, e2]
  obtain ⟨c, od, dt, sl⟩ := o
  dsimp only at hd
  subst hd
  unfold nsSet strHash
  refine wpAny_bind (wpAny_bind (wpAny_askSetting (wpAny_pure ?_)))
  refine wpAny_bind (wpAny_mkText (wpAny_bind (wpAny_loadPart ho ?_)))
  have hq : aRefKeyMayBeTheName x es = false := by simp only [aRefKeyMayBeTheName_eq, aRefKeyMayBeTheNameByArray, hrk, Bool.and_false]
  show wpAny _ _ (if aRefKeyMayBeTheName x es = true then _ else _) _ _ _
  rw [if_neg (by rw [hq]; exact Bool.false_ne_true)]
  have ep1 : ∀ (hh : Int) (ky : Value), Obj.putName x hh ky u ⟨c, od, .dict es ep, sl⟩ = ⟨c, od, .dict (es.push ⟨hh, ky, u⟩) (ep + 1), sl⟩ := fun hh ky => by simp only [Obj.putName_eq, Obj.putNameByArray, hni]
  refine wpAny_updatePart ho ?_
  refine h _ ⟨_, _, ep + 1, (Heap.get?_update_self _ ho (by rw [ep1]; rfl)).trans (congrArg some (ep1 _ _)), hxd, rfl, ?_, ?_, ?_⟩ (fun b hb => Heap.get?_update_other _ _ (Ne.symm hb)) ?_
  · intro e he
    rcases Array.mem_push.1 he with he | rfl
    · exact hk e he
    · exact ⟨.inr x, keyIs_str x s.toks, rfl⟩
  · rw [Array.toList_push]
    exact prs_snoc hp (keyIs_str x s.toks) rfl
  · rw [List.map_append]
    refine List.nodup_append.2 ⟨hn, by simp, fun k hk' k2 hk2 e => ?_⟩
    obtain ⟨q, hq, rfl⟩ := List.mem_map.1 hk'
    rw [List.map_cons, List.map_nil, List.mem_singleton] at hk2
    exact hx q hq (e.trans hk2)
  · exact Heap.size_update _ _ _
/-- names and values, put in turn into a new dict -/
def kwFill (d : Addr) : List (Str × Value) → Sem Unit
  | [] => pure ()
  | p :: r => (nsSet d p.1 p.2 >>= fun _ => pure (ForInStep.yield PUnit.unit)) >>= fun (s : ForInStep PUnit) => match s with
    | .done b => pure b
    | .yield _ => kwFill d r
def kwK (ps : List (Str × Value)) : List (Key × Value) := ps.map fun p => (.inr p.1, p.2)
theorem kw_fill {P : Program} {w : World} {A : Around} {E : Value → Shared → Prop} {d : Addr} {Q : Unit → Shared → Prop} : ∀ (ps : List (Str × Value)) (kvs : List (Key × Value)) (s : Shared), s.heap.DictOf (mixKind P w) d kvs → (ps.map (·.1)).Nodup → (∀ p ∈ ps, ∀ q ∈ kvs, q.1 ≠ .inr p.1) →
    (∀ h' t', h'.DictOf (mixKind P w) d (kvs ++ kwK ps) → (∀ b, b ≠ d → h'.get? b = s.heap.get? b) → h'.objs.size = s.heap.objs.size → Q () { s with heap := h', toks := t' }) → wpAny (model P w) A (kwFill d ps) Q E s
  | [], kvs, s, dd, _, _, h => wpAny_pure (h s.heap s.toks (by rw [show kwK [] = [] from rfl, List.append_nil]; exact dd) (fun _ _ => rfl) rfl)
  | p :: r, kvs, s, dd, hn, hx, h => by
    rw [List.map_cons, List.nodup_cons] at hn
    refine wpAny_bind (wpAny_bind (ns_put dd (fun q hq => hx p List.mem_cons_self q hq) fun h1 d1 k1 z1 => wpAny_pure ?_))
    refine kw_fill r (kvs ++ [(.inr p.1, p.2)]) { s with heap := h1, toks := s.toks + 1 } d1 hn.2 (fun p' hp q hq => ?_) fun h2 t2 d2 k2 z2 => ?_
    · rcases List.mem_append.1 hq with hq | hq
      · exact hx p' (List.mem_cons_of_mem _ hp) q hq
      · rw [List.mem_singleton.1 hq]
        intro e
        exact hn.1 (List.mem_map.2 ⟨p', hp, (Sum.inr.inj e).symm⟩)
    · refine h h2 t2 (by rw [List.append_assoc] at d2; exact d2) (fun b hb => (k2 b hb).trans (k1 b hb)) (z2.trans z1)
def kwV (ks : List Str) (zs : List V) : List (Key × V) := (ks.zip zs).map fun p => (.inr p.1, p.2)
theorem kv_kw : ∀ {ks : List Str} {zs : List V} {ws : List Value}, Vals zs ws → KV (kwV ks zs) (kwK (ks.zip ws))
  | [], zs, ws, r => by rw [show kwV [] zs = [] from rfl, show kwK (([] : List Str).zip ws) = [] from rfl]; exact .nil
  | k :: ks, [], _, .nil => .nil
  | k :: ks, z :: zs, _, .cons a r => .cons ⟨rfl, a⟩ (kv_kw r)
/-- a function called with keywords -/
def FnK (P : Program) (w : World) (K : PySem.W.Frag) (mg : Str → Option Value) (base : Heap) (CX : CXT) (k : Nat) (f : Addr) (ks : List Str) (sp : List V → Sp) : Prop :=
  ∀ (A : Around) (outer : List Env) (s : Shared) (H : Hp) (us ws : List Value) (vs zs : List V) (Q : VK) (E : XK), Room k A → Env0 P w K mg base A outer s H → Vals vs us → Vals zs ws → sp zs vs H Q E → codeAny (model P w) A (.call (.ref f) ⟨us, ks.zip ws⟩) (CR CX outer P w H s Q E) s
def kwSpN (n : Nat) (ks : List Str) (sp : Sp) : List V → Sp := fun zs vs H Q E => vs.length = n ∧ zs.length = ks.length ∧ ∀ d, H d = none → sp (vs ++ [V.ref d]) (upd H d (.dK (kwV ks zs))) Q E
theorem env0_laidG {P : Program} {w : World} {K : PySem.W.Frag} {mg : Str → Option Value} {base : Heap} {A : Around} {outer : List Env} {s : Shared} {H : Hp} {u : HO} {h' : Heap} {t' : Nat} (e0 : Env0 P w K mg base A outer s H) (kp : ∀ b x, s.heap.get? b = some x → h'.get? b = some x) (hz : s.heap.objs.size ≤ h'.objs.size) (new : ObjOk P w (upd H s.heap.objs.size u) h' s.heap.objs.size u) :
    Env0 P w K mg base A outer { s with heap := h', toks := t' } (upd H s.heap.objs.size u) where
  frames := e0.frames
  mod := e0.mod
  bs := fun b x e => ⟨kp b x (e0.bs b x e).1, by rw [upd_ne (Nat.ne_of_lt (Heap.lt_size (e0.bs b x e).1))]; exact (e0.bs b x e).2⟩
  bsz := Nat.le_trans e0.bsz hz
  funs := Heap.FunFrames.of_keeps (fun b x e _ => ⟨x, kp b x e, rfl⟩) e0.funs
  frf := fun b hb => by
    obtain ⟨_, x, hx, _⟩ := e0.funs.mem hb
    rw [upd_ne (Nat.ne_of_lt (Heap.lt_size hx))]
    exact e0.frf b hb
  hok := e0.hok.laid kp (Nat.le_refl _) new
  bare := e0.bare
section
variable {CX : CXT} {P : Program} {w : World} {K : PySem.W.Frag} {mg : Str → Option Value} {base : Heap} {k : Nat} {f : Addr} {name qual : Str} {params : Arguments} {body : List Stmt} {scope : Scope} {dV kV doc pm cdv ct oc : Value} {an od : Option Addr}
  {osl : Array (Option Value)} {N ps ks : List Str} {sp : Sp}
theorem fn_kwN {pd : Str} (lk : K.lookup f = some ⟨oc, od, .func (PySem.W.fnOf name qual params body scope dV kV doc pm an cdv ct), osl⟩) (hcd : PySem.W.codeIn K cdv qual = true) (S : FnScope N (ps ++ [pd]) scope) (hCX : StX.CXUp CX) (hks : ks.Nodup) (hkz : ks.length ≤ 900)
    (bind : ∀ us ws : List Value, us.length = ps.length → ws.length = ks.length → bindArgs (PySem.W.fnOf name qual params body scope dV kV doc pm an cdv ct) ⟨us, ks.zip ws⟩ = ((alloc ({ cls := .type "dict", data := .dict #[] } : Obj) : Sem Addr) >>= fun d => kwFill d (ks.zip ws) >>= fun _ => pure (ps.zip us ++ [(pd, Value.ref d)])))
    (walk : ∀ (A : Around) (outer : List Env) (s : Shared) (H : Hp) (vs : List V) (Q : VK) (E : XK), Room k (A.deeper (envOfC qual scope s.heap.objs.size f cdv)) → sp vs H Q E →
      ∃ t, PSs (cxOf CX P w K mg base N qual scope f cdv A outer s H E) body t ∧ t { nx := fun _ H' => Q .non H', rt := Q } (start N vs) H) : FnK P w K mg base CX (k + 1) f ks (kwSpN ps.length ks sp) := by
  rintro A outer s H us ws vs zs Q E hr e0 r rz ⟨hl, hlz, hq⟩
  have hn : H s.heap.objs.size = Option.none := e0.hok.fresh (Nat.le_refl _)
  have hlu : us.length = ps.length := by rw [← r.length]; exact hl
  have hlw : ws.length = ks.length := by rw [← rz.length]; exact hlz
  have hfst : (ks.zip ws).map (·.1) = ks := by rw [← List.unzip_fst, List.unzip_zip hlw.symm]
  refine StX.run_bnd lk hcd S hr e0 (G := fun xs H2 => ∃ d, H d = Option.none ∧ xs = vs ++ [V.ref d] ∧ H2 = upd H d (.dK (kwV ks zs))) (fun A' Ex Q' h => ?_) (fun s2 H2 xs g hr' => ?_)
  · rw [bind us ws hlu hlw]
    refine wpAny_bind (wpAny_alloc (wpAny_bind ?_))
    refine kw_fill (ks.zip ws) [] _ (Heap.DictOf.new s.heap) (by rw [hfst]; exact hks) (fun _ _ _ z => nomatch z) fun h' t' dd kp sz => wpAny_pure ?_
    have kp2 : ∀ b x, s.heap.get? b = some x → h'.get? b = some x := fun b x e => (kp b (Nat.ne_of_lt (Heap.lt_size e))).trans (Heap.get?_push_of_some _ e)
    have sz2 : s.heap.objs.size ≤ h'.objs.size := by rw [sz, Heap.size_push]; exact Nat.le_succ _
    have hmz : (kwV ks zs).length ≤ 900 := by
      unfold kwV
      rw [List.length_map, List.length_zip]
      omega
    have new : ObjOk P w (upd H s.heap.objs.size (.dK (kwV ks zs))) h' s.heap.objs.size (.dK (kwV ks zs)) :=
      ⟨Nat.le_trans hmz (by decide), beq_eq_false_iff_ne.mpr (Ne.symm (Nat.ne_of_lt (StX.env0_big e0))), _, kv_kw rz, dd⟩
    have e1 := env0_laidG (t' := t') e0 kp2 sz2 new
    have un : Un (frs outer) [] H (upd H s.heap.objs.size (.dK (kwV ks zs))) s.heap h' := Un.laid kp2 (Nat.le_refl _) hn
    have z := h _ _ (vs ++ [V.ref s.heap.objs.size]) (us ++ [Value.ref s.heap.objs.size]) e1 un rfl (fun e s' => hCX outer s H _ _ E e s' un kp2 rfl) (r.append (.cons rfl .nil)) (by rw [List.length_append, List.length_append, hl] <;> rfl) ⟨_, hn, rfl, rfl⟩
    rw [List.zip_append hlu.symm] at z
    exact z
  · obtain ⟨d, hd, rfl, rfl⟩ := g
    exact walk A outer s2 _ _ Q E hr' (hq d hd)
end
theorem fun_kwN {P : Program} {w : World} {K : PySem.W.Frag} {mg : Str → Option Value} {base : Heap} {x qual : Str} {st : Stmt} {f : Addr} {fd : FuncData} {N ps : List Str} {pd : Str} {k : Nat} {sp : Sp} (ks : List Str) (hks : ks.Nodup) (hkz : ks.length ≤ 900) (F : Fun K x qual st f fd) (S : FnScope N (ps ++ [pd]) (defScope st))
    (bind : ∀ (kV doc pm : Value) (an : Option Addr) (cdv ct : Value) (us ws : List Value), us.length = ps.length → ws.length = ks.length → bindArgs (PySem.W.fnOf x qual (defArgs st) (defBody st) (defScope st) .none kV doc pm an cdv ct) ⟨us, ks.zip ws⟩ = ((alloc ({ cls := .type "dict", data := .dict #[] } : Obj) : Sem Addr) >>= fun d => kwFill d (ks.zip ws) >>= fun _ => pure (ps.zip us ++ [(pd, Value.ref d)])))
    (walk : ∀ (cdv : Value) (A : Around) (outer : List Env) (s : Shared) (H : Hp) (vs : List V) (Q : VK) (E : XK), Room k (A.deeper (envOfC qual (defScope st) s.heap.objs.size f cdv)) → sp vs H Q E →
      ∃ t, PSs (cxOf (L2.CX P w) P w K mg base N qual (defScope st) f cdv A outer s H E) (defBody st) t ∧ t { nx := fun _ H' => Q .non H', rt := Q } (start N vs) H) : FnK P w K mg base (L2.CX P w) (k + 1) f ks (kwSpN ps.length ks sp) := by
  obtain ⟨oc, od, kV, doc, pm, an, cdv, ct, osl, rfl, lk, hcd⟩ := F.ex
  exact fn_kwN lk hcd S StX.cxUp hks hkz (bind kV doc pm an cdv ct) fun A outer s H vs Q E hr hsp => walk cdv A outer s H vs Q E hr hsp
/-- C(k = v, ..) of a class whose __init__ gathers them -/
def tMakeN (C : Addr) (sp : List V → Sp) (E : XK) (tk : TA) : TE := fun σ H Q => tk σ H fun zs H1 => ∀ x dx, H1 x = none → H1 dx = none → dx ≠ x → sp zs [V.ref x] (upd (upd H1 dx (.own x)) x (.ins C dx [])) (fun v H2 => v = .non ∧ Q (.ref x) H2) E
theorem run_makeN {X : Cx} {CX : CXT} {k : Nat} {f C : Addr} {ks : List Str} {sp : List V → Sp} {E : XK} {ps : List (Addr × Obj)} {σ : L2.St} {H : Hp} {s : Shared} {Q : VK} {ws : List Value} {zs : List V} (M : Mk X.K C f) (F : FnK X.prog X.w X.K X.mg X.base CX k f ks sp) (hr : Room (k + 1) X.A) (hx : Passes CX X E)
    (I : Inv X ps σ H s) (rz : Vals zs ws) (h : ∀ x dx, H x = none → H dx = none → dx ≠ x → sp zs [V.ref x] (upd (upd H dx (.own x)) x (.ins C dx [])) (fun v H2 => v = .non ∧ Q (.ref x) H2) E) : wpAny (model X.prog X.w) X.A (call (.ref C) [] (ks.zip ws)) (EP X ps σ Q) X.xe s := by
  have q0 := h (s.heap.objs.size + 1) s.heap.objs.size (I.hok.fresh (Nat.le_succ _)) (I.hok.fresh (Nat.le_refl _)) (Nat.ne_of_lt (Nat.lt_succ_self _))
  have J := Inv.made (C := C) I
  have rx : Vals [V.ref (s.heap.objs.size + 1)] [Value.ref (s.heap.objs.size + 1)] := .cons rfl .nil
  refine wpAny_call (make_map (f := f) I.kIn M.makes M.init (beq_iff_eq.mp M.fn) (codeAny_mono (F _ X.stack _ _ [Value.ref (s.heap.objs.size + 1)] ws _ _ _ E (hr.make C [] (ks.zip ws)) (J.env0.make C [] (ks.zip ws)) rx rz q0) fun r s' hr' => ?_))
  match r, hr' with
  | .error e, hr' => exact hx ps σ _ _ e s' J hr'
  | .ok (.ret u), hr' =>
    obtain ⟨v, H', J2, rv, ev, qv⟩ := J.after hr'
    subst ev
    exact ⟨rv, ⟨V.ref (s.heap.objs.size + 1), H', J2, rfl, qv⟩⟩
  | .ok .next, hr' => exact hr'.elim
  | .ok .brk, hr' => exact hr'.elim
  | .ok .cont, hr' => exact hr'.elim
theorem pe_makeN {X : Cx} {CX : CXT} {k : Nat} {f C : Addr} {ks : List Str} {sp : List V → Sp} {E : XK} {x : Str} {p pos : Pos} {kws : List Keyword} {tk : TA} (M : Mk X.K C f) (F : FnK X.prog X.w X.K X.mg X.base CX k f ks sp) (hr : Room (k + 1) X.A) (hg : Gl X x) (hm : X.mg x = some (.ref C)) (hx : Passes CX X E) (hkw : PK X kws tk)
    (hall : (backToKw pos (keywordEach kws X.env)).all (·.1.isSome) = true := by rfl) (hks : (backToKw pos (keywordEach kws X.env)).filterMap (·.1) = ks := by rfl) (hdb : (x == ("__debug__" : Str)) = false := by decide)
    (hpl : ((backTo pos (starEach [] X.env)).any (·.1) || (backToKw pos (keywordEach kws X.env)).any (·.1.isNone)) = false := by rfl) : PE X (.Call (.Name x p) [] kws pos) (tMakeN C sp E tk) := by
  refine ⟨fun ps σ0 σ H Q I h => ?_⟩
  refine wpAny_Call_Name_kw (ld_glob I hg hm ?_ hdb)
  refine PySem.W.callWith_KW0 (h₀ := X.base) I.ok.mod.kin M.kp hall ?_ hpl
  refine thn (hkw.run pos ps σ0 σ H _ I h) fun ws s2 hw => ?_
  obtain ⟨zs, H2, I2, rz, q2⟩ := hw
  refine ⟨I2.kIn, ?_⟩
  rw [hks]
  exact run_makeN M F hr hx I2 rz q2
theorem r_makeN {C : Addr} {sp : List V → Sp} {E : XK} {tk : TA} {σ : L2.St} {H : Hp} {Q : VK} (q : tk σ H fun zs H1 => ∀ x dx, H1 x = none → H1 dx = none → dx ≠ x → sp zs [V.ref x] (upd (upd H1 dx (.own x)) x (.ins C dx [])) (fun v H2 => v = .non ∧ Q (.ref x) H2) E) : tMakeN C sp E tk σ H Q := q
end
local macro_rules | `(tactic| walk_at "v1") => `(tactic| with_reducible refine r_makeN ?_)

/-! bool(o) by an own __bool__, list(s) -/
section
open PyProof.Rows
theorem bool_any {prog : Program} {w : World} {A : Around} {E : Value → Shared → Prop} {s : Shared} {v : Value} {Q : Value → Shared → Prop} (h : wpAny (model prog w) A.in1.in1 (truthy v) (fun b s₁ => Q (.bool b) s₁) E s) : wpAny (model prog w) A (call (.type "bool") [v]) Q E s := by
  refine callType_codes (T := "bool") (Bi := Builtin.«object.__init__») (Q₁ := fun r s₁ => ∃ b, r = Value.bool b ∧ Q r s₁) PySem.F.called_bool (PySem.F.typeCall_bool_1 _) PySem.F.entry_object_init ?_ ?_
  · refine codeAny_of_tree ?_
    show wpAny _ A.in1.in1 (do checkBuiltinCall "bool.__new__" ⟨[.type "bool", v], []⟩; again (.builtin "bool.__new__" ⟨[.type "bool", v], []⟩)) _ _ s
    refine wpAny_bind (wpAny_of_eq (PySem.F.newCall_bool_1 _) (wpAny_pure ⟨plainId_quiet (by decide +kernel) _, codeAny_builtin PySem.F.entry_bool_new ?_⟩))
    rw [(Around.under_plainId (by decide +kernel) _)]
    unfold Builtin.«bool.__new__»
    refine wpAny_bind (wpAny_of_eq (a := true) (by kernel_rfl) ?_)
    refine (PySem.W.KFB.if_not rfl ?_)
    refine wpAny_bind (wpAny_of_eq (a := true) PySem.F.conv_sub_bool ?_)
    refine (PySem.W.KFB.if_not rfl ?_)
    refine wpAny_bind (wpAny_of_eq (a := [v]) rfl ?_)
    refine wpAny_bind (wpAny_mono h (fun b s' hr => ?_) fun _ _ y => y)
    exact wpAny_pure ⟨b, rfl, hr⟩
  · rintro obj s₁ ⟨b, rfl, hq⟩
    exact ⟨PySem.typeIs_bool _ _, PySem.F.args_object_init_2 _ _, object_init_meets PySem.F.called_bool.init.lookup PySem.F.called_bool.made (by decide) prog w A.in1 _ s₁ ⟨PySem.typeIs_bool _ _, rfl, hq⟩⟩
def rBoolOwn (C : Addr) (sp : Sp) (E : XK) : List V → Hp → VK → Prop := fun zs H Q => ∃ a dx fs, zs = [V.ref a] ∧ H a = some (.ins C dx fs) ∧ sp [V.ref a] H (fun z H' => ∃ b : Bool, z = .bl b ∧ Q (.bl b) H') E
theorem call_ownBool {X : Cx} {CX : CXT} {n : Nat} {f C : Addr} {sp : Sp} {E : XK} (hm : Meth X.K C (Str.ofString "__bool__") f) (F : FnR X.prog X.w X.K X.mg X.base CX n f sp) (hr : Room (n + 2) X.A) (hx : Passes CX X E) : CallR X (.type "bool") (rBoolOwn C sp E) := by
  intro ps σ0 σ H zs us Q I r h
  obtain ⟨a, dx, fs, rfl, ha, q⟩ := h
  obtain ⟨u, rfl, ru⟩ := r.one
  cases (show u = Value.ref a from ru)
  obtain ⟨ox, od, J⟩ := ins_inst I ha
  obtain ⟨m, hF⟩ := I.fr
  have hr2 : Room n X.A.in1.in1 := (Room.in1 (show Room (n + 1) X.A.in1 from hr.in1))
  refine bool_any (PySem.W.truthy_K hF I.ok.mod.kin J hm.at_ hm.fn (wpAny_mono (wpAny_call (SlX.run_at (us := [.ref a]) (ws := [.ref a]) F hr2 I.env0.in1.in1 hx I (.cons rfl .nil) q)) (fun w s' z => ?_) fun _ _ y => y))
  obtain ⟨z', H', I', rz, b, ez, qz⟩ := z
  subst ez
  cases (show w = Value.bool b from rz)
  exact ⟨.bl b, H', I', rfl, qz⟩
/-- bool(d), d a dict -/
def rBoolD : List V → Hp → VK → Prop := fun zs H Q => ∃ (a : Addr) (kvs : List (Key × V)), zs = [V.ref a] ∧ H a = some (.dK kvs) ∧ Q (.bl (!kvs.isEmpty)) H
theorem call_boolD {X : Cx} : CallR X (.type "bool") rBoolD := by
  intro ps σ0 σ H zs us Q I r h
  obtain ⟨a, kvs, rfl, ha, q⟩ := h
  obtain ⟨u, rfl, ru⟩ := r.one
  cases (show u = Value.ref a from ru)
  exact bool_any (d_truth I (.inl ha) fun s' I' => ⟨.bl _, H, I', rfl, q⟩)
theorem c_boolD {l : List Asn} {H : Hp} {i : Nat} {a : Addr} {m : List (Str × Int)} {Q : VK} (S : Sep l H) (hi : l[i]? = some (At a (.dK (mp m)))) (q : Q (.bl (!m.isEmpty)) H) : rBoolD [.ref a] H Q := by
  refine ⟨a, _, rfl, S.at hi, ?_⟩
  have e : (mp m).isEmpty = m.isEmpty := by cases m <;> rfl
  rw [e]; exact q
theorem c_ownBool {K : PySem.W.Frag} {l : List Asn} {H : Hp} {i : Nat} {p C : Addr} {fs : List (Str × V)} {sp : Sp} {E : XK} {Q : VK} (S : Sep l H) (hi : l[i]? = some (Ob p C fs)) (q : sp [V.ref p] H (fun z H' => ∃ b : Bool, z = .bl b ∧ Q (.bl b) H') E) : rBoolOwn C sp E [.ref p] H Q := by
  obtain ⟨dx, e⟩ := ob_at S hi
  exact ⟨p, dx, fs, rfl, e, q⟩
/-- list(s), s a text -/
def signs (x : Str) : List V := x.cps.toList.map fun c => V.str ⟨#[c]⟩
theorem signs_len (x : Str) : (signs x).length = x.cps.size := by unfold signs; rw [List.length_map, Array.length_toList]
theorem vals_signs {x : Str} {acc : Array Value} (h : ItemsOf (SignAt x) acc x.cps.size) : Vals (signs x) acc.toList := by
  have e : acc.toList.length = (signs x).length := by rw [Array.length_toList, signs_len]; exact h.1
  have k : signs x = (List.range acc.toList.length).map fun j => ((signs x)[j]?).getD .non := by
    refine List.ext_getElem? fun j => ?_
    rw [List.getElem?_map]
    by_cases hj : j < (signs x).length
    · rw [List.getElem?_range (by omega)]
      rw [Option.map_some, List.getElem?_eq_getElem hj]; rfl
    · rw [List.getElem?_eq_none (by omega), List.getElem?_eq_none (by rw [List.length_range]; omega)]; rfl
  rw [k]
  refine vals_of_get acc.toList _ fun j u hj => ?_
  obtain ⟨c, t, hc, rfl⟩ := h.2 j u (by rw [← hj, Array.getElem?_toList])
  have : (signs x)[j]? = some (V.str ⟨#[c]⟩) := by
    unfold signs
    rw [List.getElem?_map, Array.getElem?_toList, hc]; rfl
  rw [this]
  exact ⟨t, rfl⟩
def rListS : List V → Hp → VK → Prop := fun zs H Q => ∃ x : Str, zs = [.str x] ∧ x.cps.size ≤ 16777216 ∧ ∀ p, H p = none → Q (.ref p) (upd H p (.lst (signs x)))
theorem call_listS {X : Cx} (hc : X.calm = true) : CallR X (.type "list") rListS := by
  intro ps σ0 σ H zs us Q I r h
  obtain ⟨x, rfl, hz, q⟩ := h
  obtain ⟨u, rfl, t, rfl⟩ := r.one
  refine call_list_str (I.ok.hd hc) x t (fun h' tk acc c' hk e' hi => ?_) (by rw [sizeLine_eq]; omega)
  refine ⟨.ref σ0.heap.objs.size, upd H σ0.heap.objs.size (.lst (signs x)), I.laid hk (Nat.le_refl _) (show ObjOk X.prog X.w _ _ _ (.lst (signs x)) from ⟨?_, acc.toList, c', vals_signs hi, ?_⟩), rfl, q _ (I.hok.fresh (Nat.le_refl _))⟩
  · rw [signs_len, sizeLine_eq]; omega
  · rw [Array.toArray_toList]; exact e'
theorem c_listS {l : List Asn} {H : Hp} {x : Str} {Q : VK} (S : Sep l H) (hz : x.cps.size ≤ 16777216) (k : ∀ p H', Sep (At p (.lst (signs x)) :: l) H' → Q (.ref p) H') : rListS [.str x] H Q := ⟨x, rfl, hz, fun p hp => k p _ (S.new hp)⟩
theorem i_LTt {K : PySem.W.Frag} {H : Hp} {Q : VK} {l : List Asn} {p : Addr} {xs : List V} {e f : Nat} {q : Addr} (S : Sep l H) (hi : l[e]? = some (Tp p xs)) (hj : l[f]? = some (Tp q [.ty "list", .ty "tuple"])) (k : Q (.bl true) H) : gIsi K [.ref p, .ref q] H Q :=
  .inr ⟨.ref p, q, [.ty "list", .ty "tuple"], .type "tuple", [.type "list", .type "tuple"], true, rfl, S.tp hj, .cons (.ty _) (.cons (.ty _) .nil), .base (.tup (S.tp hi)), (by simp [PySem.W.kitAny, kit_ty k_tl, kit_ty k_tt]), k⟩
theorem mp_at {m : List (Str × Int)} {i : Nat} {k : Key} {v : V} (h : (mp m)[i]? = some (k, v)) : ∃ w n, m[i]? = some (w, n) ∧ k = Sum.inr w ∧ v = .int n := by
  unfold mp at h
  rw [List.getElem?_map] at h
  cases e : m[i]? with
  | none => rw [e] at h; cases h
  | some x => rw [e] at h; cases h; exact ⟨x.1, x.2, rfl, rfl, rfl⟩
/-- {.. for .. in d.items() ..}, d locked meanwhile -/
theorem dcI {σ : L2.St} {H : Hp} {g : TG} {te tk tv : TE} {tt : TT} {vs : List Nat} {Q : VK} {l : List Asn} {p : Addr} {e : Nat} {kvs : List (Key × V)} (S : Sep l H) (hi : l[e]? = some (At p (.dK kvs))) (Pv : Obj → Addr → Nat → Hp → Prop) (h0 : ∀ od D H', Sep (At D (.dK []) :: l.set e (At p (.frz od (.dK kvs)))) H' → Pv od D 0 H') (hl : ∀ od D i H, Pv od D i H → H p = some (.frz od (.dK kvs)))
    (hs : ∀ od D i k v T H H', kvs[i]? = some (k, v) → Pv od D i H → H T = none → H' = upd H T (.tup [kV k, v]) → DcT g tt tk tv vs σ (.ref T) D (Pv od D (i + 1)) H') (hd : ∀ od D H, Pv od D kvs.length H → Q (.ref D) (upd H p (.dK kvs))) (hv : ∀ H', te σ H' = fun Q => Q (.ref p) H') : tLockE (tDc (iItems te) g tt tk tv vs) σ H Q := by
  refine ⟨p, .dK kvs, S.at hi, trivial, fun od => ?_⟩
  have S1 := S.upd hi (o' := .frz od (.dK kvs)) (fun _ z => nomatch z)
  show te σ _ _
  rw [hv]
  refine ⟨p, od, kvs, rfl, upd_same, fun D hD => ⟨fun i m H2 => m = kvs.length - i ∧ i ≤ kvs.length ∧ Pv od D i H2, ⟨kvs.length, by simp, Nat.zero_le _, h0 od D _ (S1.new hD)⟩, ?_⟩⟩
  rintro i m H2 ⟨rfl, hz, q⟩
  have hq := hl od D i H2 q
  by_cases hlt : i < kvs.length
  · refine .inr ⟨⟨hq, hlt⟩, Pv od D (i + 1), fun H3 q3 => ⟨kvs.length - (i + 1), by omega, rfl, hlt, q3⟩, fun x H3 y => ?_⟩
    obtain ⟨T, k, v, ek, rfl, hn, rfl⟩ := y
    exact hs od D i k v T H2 _ ek q hn rfl
  · obtain rfl : i = kvs.length := by omega
    exact .inl ⟨⟨hq, Nat.le_refl _⟩, hq, hd od D H2 q⟩
end
local macro_rules | `(tactic| walk_at "v1") => `(tactic| (first
  | ((with_reducible refine' c_ownBool (by assumption) ?hi ?_); (case hi => walk_at "has"))
  | ((with_reducible refine' c_boolD (by assumption) ?hi ?_); (case hi => walk_at "has"))
  | ((with_reducible refine' c_listS (by assumption) ?hz ?_); (case hz => decide); intro _ _ _)))

/-! own errors with one field, over any built-in base -/
section
open PyProof.Rows
structure OexB (K : PySem.W.Frag) (C : Addr) : Prop where
  ex : ∃ (B newId initId : String) (bm : List Value), ExcBaseFacts B newId initId bm ∧ (∀ v : Value, refuseLoop v "__setattr__" bm = pure ()) ∧ bm.contains (.type "object") = true ∧
    ∃ nm q N bs sn sub ab col dd k0 k1 k2 k3 k5, K.lookup C = some (excClassObj nm q C N bs bm true sn sub ab col dd k0 k1 k2 k3 k5 newId)
  sa : PySem.W.findIn K (.ref C) "__setattr__" = some (some (.builtin "object.__setattr__"))
  exC : PySem.W.subIn K (.ref C) (.type "BaseException") = some true
  tyC : PySem.W.typeIn K (.ref C) = some (.type "type")
  kC : PySem.W.keepIn K (.ref C) = true
theorem pass_ZD : ∀ v : Value, refuseLoop v "__setattr__" [.type "ZeroDivisionError", .type "ArithmeticError", .type "Exception", .type "BaseException", .type "object"] = pure () := fun v => by kernel_rfl
theorem pass_LE : ∀ v : Value, refuseLoop v "__setattr__" [.type "LookupError", .type "Exception", .type "BaseException", .type "object"] = pure () := fun v => by kernel_rfl
theorem pass_RE : ∀ v : Value, refuseLoop v "__setattr__" [.type "RuntimeError", .type "Exception", .type "BaseException", .type "object"] = pure () := fun v => by kernel_rfl
section
open Builtin Builtin.ObjectAttr PySem.W PySem.HandSPX
theorem exb_set {prog : Program} {w : World} {A : Around} {R : Result → Shared → Prop} {h0 : Heap} {g0 : Array GenState} {d0 : Drawn} {t0 : Nat} {o0 : OsState} {K : Frag} {fld : Str} {tk : Tok} {u : Value} {e C : Addr} {fv : Array Value} {cd : ClassData} {bm : List Value}
    (KX : K.In h0) (he : h0.get? e = some { cls := .ref C, data := .fields fv }) (hcd : clsIn K C = some cd) (hm : cd.mro = .ref C :: bm) (pass : ∀ v : Value, refuseLoop v "__setattr__" bm = pure ()) (hob : bm.contains (.type "object") = true) (hh : cd.hasDict = true) (hno : findIn K (.ref C) fld = some none)
    (k : ∀ h1 t1 dx, (∀ b o, b ≠ e → h0.get? b = some o → h1.get? b = some o) → h0.objs.size ≤ dx → dx ≠ e → h1.get? e = some { cls := .ref C, dict := some dx, data := .fields fv } →
      h1.Ns1 dx (fun y => if y = fld then some u else none) → R (.ok (.ret .none)) ⟨h1, g0, d0, t1, o0⟩) :
    codeAny (model prog w) A (.call (.builtin "object.__setattr__") ⟨[.ref e, .str fld tk, u], []⟩) R ⟨h0, g0, d0, t0, o0⟩ := by
  have J : InstAt h0 e { cls := .ref C, data := .fields fv } C none := ⟨he, rfl, rfl, trivial⟩
  have SO := PySem.F.store_object
  have hob2 : cd.mro.contains (.type "object") = true := by rw [hm, List.contains_cons, hob, Bool.or_true]
  have ne2 : cd.mro.isEmpty = false := by rw [hm]; rfl
  have hes : e ≠ h0.objs.size := Nat.ne_of_lt (Heap.lt_size he)
  have subE : Looks (model prog w) h0 (isInstance (.ref e) (.type "object")) true := J.type.andThen (looks_mroIn KX (by unfold mroIn; rw [hcd, Option.bind_some, if_neg (by rw [ne2]; decide), hob2]))
  refine codeAny_call_builtin SO.slot.plain SO.entry (@check_slot (model prog w) _ _ ⟨h0, g0, d0, t0, o0⟩ "object.__setattr__" "object" "__setattr__" (.ref e) [.str fld tk, u] [] _ SO.kind SO.split subE (SO.args (.ref e) (.str fld tk) u) ?_)
  have mroE : Looks (model prog w) h0 (mroOf (.ref C)) cd.mro := (looks_clsIn KX hcd).andThen .now
  have takE : Looks (model prog w) h0 (storeTaker? none) none := .now
  have clsE : Looks (model prog w) h0 (classData C) cd := looks_clsIn KX hcd
  rw [osa_eq, refuse_eq]
  refine wpAny_bind (wpAny_bind (J.type.at (wpAny_bind (mroE.at ?_))))
  rw [hm, refuseLoop_ref, pass]
  refine wpAny_pure (wpAny_bind (J.type.at (wpAny_bind ((looks_findIn KX hno).at (wpAny_bind (takE.at ?_))))))
  show wpAny _ _ (storeInOwnDict (.ref e) (.ref C) (.str fld tk) fld u false) _ _ _
  obtain ⟨c1, c2, c3, c4, c5, c6, c7, c8, c9, c10, c11⟩ := cd
  dsimp only at hh
  subst hh
  unfold storeInOwnDict; unfold ownDictForStores
  repeat (first | with_reducible refine store_in_new ?_ ?_ | with_reducible refine wpAny_loadPart_at he ?_ | with_reducible refine clsE.at ?_ | wp_step)
  · exact ⟨_, #[], _, (Heap.get?_update_ne _ _ _ _ hes.symm).trans (Heap.get?_push_at rfl rfl), rfl, fun e he => absurd he (by simp), fun _ => rfl⟩
  · intro h1 t1 hn1 hs1
    have he1 : (h0.push { cls := .type "dict", data := .dict #[] }).get? e = some { cls := .ref C, data := .fields fv } := Heap.get?_push_of_some _ he
    refine k h1 t1 h0.objs.size (fun b o hb ho => ?_) (Nat.le_refl _) hes.symm ?_ hn1
    · exact (hs1.2 b (Nat.ne_of_lt (Heap.lt_size ho))).trans ((Heap.get?_update_ne _ _ _ _ hb).trans (Heap.get?_push_of_some _ ho))
    · exact (hs1.2 e hes).trans (Heap.get?_update_self _ he1 rfl)
end
section
variable {X : Cx} {ps : List (Addr × Obj)} {σ : L2.St} {H : Hp} {s : Shared} {a C : Addr} {f : Str} {y : V} {u : Value} {Q : Unit → Shared → Prop} {E : Value → Shared → Prop} {A : Around}
/-- self.f = y of such an error, its only field -/
theorem exb_put (T : OexB X.K C) (I : Inv X ps σ H s) (e : H a = some (exo a C none)) (hno : PySem.W.findIn X.K (.ref C) f = some none) (ry : RelV y u)
    (h : ∀ dx s', H dx = none → dx ≠ a → Inv X ps σ (upd (upd H dx (exd dx [(f, y)])) a (exo a C (some dx))) s' → Q () s') : wpAny (model X.prog X.w) A (setAttr (.ref a) f u) Q E s := by
  obtain ⟨B, n1, n2, bm, FB, pass, hob, nm, q, N, bs, sn, sub, ab, col, dd, k0, k1, k2, k3, k5, hC⟩ := T.ex
  have hcl : PySem.W.clsIn X.K C = some { name := nm, bases := bs, mro := .ref C :: bm, ns := N, qualname := q, hasDict := true, slotNames := sn, subclasses := sub, abstract := ab, collection := col, hasDel := false } := by
    unfold PySem.W.clsIn; rw [hC]
  obtain ⟨tt, ho⟩ := exo_at I.hok e
  obtain ⟨h0, g0, d0, t0, o0⟩ := s
  refine PySem.W.set_plain I.kIn (ox := { cls := .ref C, dict := none, data := .fields #[.ref tt, .none, .none, .none, .bool false, .none] }) (od := none) ⟨ho, rfl, rfl, trivial⟩ T.sa ?_
  refine exb_set I.kIn ho hcl rfl pass hob rfl hno (fun h1 tk1 dx kp dn dne hx hn => ?_)
  have fr : H dx = none := I.hok.fresh dn
  have nd : ∀ {b : Addr} {o : Obj}, h0.get? b = some o → b ≠ dx := fun {b o} z => Nat.ne_of_lt (Nat.lt_of_lt_of_le (Heap.lt_size z) dn)
  have na : ∀ {b : Addr}, H b = none → b ≠ a := fun {b} n z => by rw [z, e] at n; cases n
  have U : Un X.fs [] H (upd (upd H dx (exd dx [(f, y)])) a (exo a C (some dx))) h0 h1 := {
    keep := fun b o z n _ _ => kp b o (na n) z
    slot := fun b o z n _ _ => ⟨o.slots, kp b o (na n) z⟩
    free := fun b o z n _ => by rw [upd_ne (na n), upd_ne (nd z)]; exact n
    there := fun b o z _ => by
      by_cases hb : b = a
      · exact ⟨_, by rw [hb]; exact hx⟩
      · exact ⟨o, kp b o hb z⟩
    tups := fun b xs z => by rw [upd_ne (at_ne e z exo_tup), upd_ne (ne_of_none z fr)]; exact z
    frzs := fun b o v z => by rw [upd_ne (at_ne e z exo_frz), upd_ne (ne_of_none z fr)]; exact z
    tbls := fun b ps z => ⟨#[], by rw [upd_ne (at_ne e z exo_tbl), upd_ne (ne_of_none z fr), z]; simp⟩ }
  refine h dx _ fr dne (I.un (t' := tk1) U fun b o z => ?_)
  by_cases hb : b = a
  · subst hb
    rw [upd_same] at z
    cases z
    exact exo_ok hx
  · rw [upd_ne hb] at z
    by_cases hd : b = dx
    · subst hd
      rw [upd_same] at z
      cases z
      exact exd_ok hn (relO_put (fs := []) ry fun g => True.intro)
    · rw [upd_ne hd] at z
      exact (I.hok b o z).stay (fun c v hc w => kp c v (by
          rcases hc with hc | hc
          · rw [hc]; exact hb
          · exact at_ne e hc exo_own) w)
        (fun c hc => by rw [upd_ne (at_ne e hc exo_own), upd_ne (ne_of_none hc fr)]; exact hc) (fun c xs hc => by rw [upd_ne (at_ne e hc exo_tup), upd_ne (ne_of_none hc fr)]; exact hc)
end
def tOstB (K : PySem.W.Frag) (f : Str) (to te : TE) : TS := fun D σ H => te σ H fun y H1 => to σ H1 fun x H2 => ∃ a C : Addr, x = .ref a ∧ OexB K C ∧ PySem.W.findIn K (.ref C) f = some none ∧ H2 a = some (exo a C none) ∧ ∀ dx, H2 dx = none → dx ≠ a → D.nx σ (upd (upd H2 dx (exd dx [(f, y)])) a (exo a C (some dx)))
theorem ps_gOstB {X : Cx} {K : PySem.W.Frag} {o e : Expr} {f : Str} {to te : TE} {p' pos : Pos} (hK : X.K = K) (ho : PE X o to) (he : PE X e te) (hs : swapsWith e (some (.Attribute o f p')) pos.line X.env = pure false := by rfl) : PS X (.Assign [.Attribute o f p'] e pos) (tOstB K f to te) := by
  subst hK
  refine ⟨fun ps s0 σ H D I h => ?_⟩
  refine plainObj_wpAny_Assign_Attribute (thn (he.run ps s0 σ H _ I h) fun v s1 hv => thn (ho.run ps s1 σ hv.choose_spec.choose _ hv.choose_spec.choose_spec.1 hv.choose_spec.choose_spec.2.2) fun u s2 hu => ?_) hs
  obtain ⟨x, H2, I2, r2, a, C, ex, T, hno, ea, q⟩ := hu
  subst ex
  obtain rfl : u = Value.ref a := r2
  exact exb_put T I2 ea hno hv.choose_spec.choose_spec.2.1 fun dx s' n ne J => ⟨σ, _, J, q dx n ne⟩
theorem r_ostB {K : PySem.W.Frag} {f : Str} {to te : TE} {σ : L2.St} {H : Hp} {nx bk ct : L2.St → Hp → Prop} {rt : VK} (q : te σ H fun y H1 => to σ H1 fun x H2 => ∃ a C : Addr, x = .ref a ∧ OexB K C ∧ PySem.W.findIn K (.ref C) f = some none ∧ H2 a = some (exo a C none) ∧ ∀ dx, H2 dx = none → dx ≠ a → nx σ (upd (upd H2 dx (exd dx [(f, y)])) a (exo a C (some dx)))) : tOstB K f to te ⟨nx, rt, bk, ct⟩ σ H := q
/-- __init__ of such an error -/
def sp_exb (K : PySem.W.Frag) (f : Str) : Sp := fun vs H Q _ => ∃ (a C : Addr) (x : V), vs = [.ref a, x] ∧ OexB K C ∧ PySem.W.findIn K (.ref C) f = some none ∧ H a = some (exo a C none) ∧
  ∀ dx, H dx = none → dx ≠ a → Q .non (upd (upd H dx (exd dx [(f, x)])) a (exo a C (some dx)))
theorem pmk_exb {X : Cx} {CX : CXT} {x : Str} {C fI : Addr} {k : Nat} {fd : FuncData} {ns : List Str} {sp : Sp} {e : Expr} {es : List Expr} {ta : TA} {p pos : Pos} (T : OexB X.K C) (iC : PySem.W.findIn X.K (.ref C) "__init__" = some (some (.ref fI))) (tI : PySem.W.typeIn X.K (.ref fI) = some (.type "function"))
    (F1 : FnOk X.prog X.w X.K X.mg X.base CX k fI fd ns sp) (hr : Room (k + 1) X.A) (hb : Binds X.K fd ns []) (hx : Passes CX X (fun _ _ _ => False)) (hg : Gl X x) (hm : X.mg x = some (.ref C)) (ha : PA X (e :: es) ta)
    (hdb : (x == ("__debug__" : Str)) = false := by decide) (he : starEach (e :: es) X.env = (false, eval e X.env) :: starEach es X.env := by rfl) (hpl : (backTo pos (starEach es X.env)).any (·.1) = false := by rfl) : PMk X (.Call (.Name x p) (e :: es) [] pos) (tMkO C sp [] ta) := by
  intro ps s0 σ H Q I h
  obtain ⟨B, n1, n2, bm, FB, pass, hob, nm, q, N, bs, sn, sub, ab, col, dd, k0, k1, k2, k3, k5, hC⟩ := T.ex
  refine wpAny_Call_Name_kw (ld_glob I hg hm ?_ hdb)
  refine PySem.W.callWith_K (h₀ := X.base) I.ok.mod.kin T.kC (thn (ha.run pos ps s0 σ H _ I h) fun us s1 hu => ⟨hu.choose_spec.choose_spec.1.kIn, ?_⟩) he hpl
  obtain ⟨vs, H1, I1, r1, hz, q1⟩ := hu
  show wpAny _ _ (call (.ref C) us) _ _ _
  obtain ⟨h0, g0, d0, t0, o0⟩ := s1
  have lz : h0.objs.size ≤ h0.objs.size + 1 := Nat.le_succ _
  have hn : H1 (h0.objs.size + 1) = none := I1.hok.fresh lz
  have hq := q1 (h0.objs.size + 1) hn
  rw [List.append_nil] at hq
  have kk : ∀ b o, h0.get? b = some o → ((h0.push (PySem.W.kdv_tup us)).push (PySem.HandSPX.excO C h0.objs.size)).get? b = some o := fun b o z => Heap.get?_push_of_some _ (Heap.get?_push_of_some _ z)
  have hget : ((h0.push (PySem.W.kdv_tup us)).push (PySem.HandSPX.excO C h0.objs.size)).get? (h0.objs.size + 1) = some (PySem.HandSPX.excO C h0.objs.size) := by heap_get
  have I2 : Inv X ps σ (upd H1 (h0.objs.size + 1) (exo (h0.objs.size + 1) C none)) ⟨(h0.push (PySem.W.kdv_tup us)).push (PySem.HandSPX.excO C h0.objs.size), g0, d0, t0, o0⟩ :=
    I1.laid (t' := t0) (a := h0.objs.size + 1) (o := exo (h0.objs.size + 1) C none) (h' := (h0.push (PySem.W.kdv_tup us)).push (PySem.HandSPX.excO C h0.objs.size)) kk lz (exo_ok hget)
  have r2 : Vals (V.ref (h0.objs.size + 1) :: vs) (Value.ref (h0.objs.size + 1) :: us) := .cons rfl r1
  have hl : (Value.ref (h0.objs.size + 1) :: us).length = ns.length := by
    have z := r2.length
    rw [F1.len _ _ _ _ hq] at z
    exact z.symm
  have hus : us.length ≤ sizeLine := by
    rw [← Paired.length r1, sizeLine_eq]; omega
  have hb2 := hb ⟨(h0.push (PySem.W.kdv_tup us)).push (PySem.HandSPX.excO C h0.objs.size), g0, d0, t0, o0⟩ (Value.ref (h0.objs.size + 1) :: us) I2.kIn (by rw [List.append_nil]; exact hl)
  rw [List.append_nil] at hb2
  refine wpAny_call (PySem.HandSPX.call_own FB (fun _ => rfl) (I1.kIn _ _ hC) (PySem.W.looks_findIn I1.kIn iC) (fun self => PySem.W.bind_fn I1.kIn self tI) hus
    (codeAny_mono (F1.run _ X.stack _ _ ⟨Value.ref (h0.objs.size + 1) :: us, []⟩ (Value.ref (h0.objs.size + 1) :: us) _ _ (fun _ _ _ => False) (hr.make C us []) (I2.env0.make C us []) hb2 r2 hq) fun r s' hq' => ?_))
  match r, hq' with
  | .error er, hq' => exact hx ps σ _ _ er s' I2 hq'
  | .ok (.ret u), hq' =>
    obtain ⟨v, H2, os2, bare2, un2, hok2, rv, ev, d, fs, ea, ed, hd1, q2⟩ := hq'
    subst ev
    obtain ⟨h2, g2, d2, t2, os'⟩ := s'
    exact ⟨rv, mk_end (raises_own T.exC T.tyC) I1 lz kk un2 hok2 os2 bare2 ea ed hd1 q2⟩
  | .ok .next, hq' => exact hq'.elim
  | .ok .brk, hq' => exact hq'.elim
  | .ok .cont, hq' => exact hq'.elim
theorem mk_exb {K : PySem.W.Frag} {l : List Asn} {H : Hp} {C : Addr} {f : Str} {x : V} {Q : XK} (S : Sep l H) (T : OexB K C) (hno : PySem.W.findIn K (.ref C) f = some none) (k : ∀ d H', Sep (At d (.xd [(f, x)]) :: l) H' → Q (.ref C) (some d) H') : gMkO C (sp_exb K f) [] [x] H Q := by
  unfold gMkO
  refine ⟨by show 1 ≤ 1000; decide, fun a ha => ⟨a, C, x, rfl, T, hno, upd_same, fun dx hdx hne => ⟨rfl, dx, [(f, x)], upd_same, by rw [upd_ne hne]; exact upd_same, ?_, ?_⟩⟩⟩
  · rw [upd_ne hne] at hdx; exact hdx
  · have hd1 : H dx = none := by rw [upd_ne hne] at hdx; exact hdx
    refine k dx _ (S.ext1 (fun b o e => ?_) hd1 upd_same)
    have hb : b ≠ dx := fun z => by rw [z, hd1] at e; cases e
    have hba : b ≠ a := fun z => by rw [z, ha] at e; cases e
    rw [upd_ne hb, del_ne hba, upd_ne hba, upd_ne hb, upd_ne hba]
    exact e
/-- a test that is a value's truth -/
def tTrR (r : V → Hp → (Bool → Hp → Prop) → Prop) (ta : TE) : TT := fun σ H Q => ta σ H fun x H1 => r x H1 Q
theorem pt_truthR {X : Cx} {a : Expr} {ta : TE} {r : V → Hp → (Bool → Hp → Prop) → Prop} (ha : PE X a ta) (hr : TruR X r) (he : ∀ whole, isTrue a X.env whole = (do let v ← whole; standAt a.pos; holding [v] (truthy v))) : PT X a (tTrR r ta) := by
  refine ⟨fun ps s0 σ H Q I h => isTrue_plain (thn (ha.run ps s0 σ H _ I h) fun v s1 hv => ?_) (he _)⟩
  obtain ⟨x, H1, I1, r1, q1⟩ := hv
  exact hr ps s1 σ H1 x v Q I1 r1 q1
theorem r_trR {σ : L2.St} {H : Hp} {ta : TE} {r : V → Hp → (Bool → Hp → Prop) → Prop} {Q : Bool → Hp → Prop} (q : ta σ H fun x H1 => r x H1 Q) : tTrR r ta σ H Q := q
/-- a call within a try: its wish may speak of the slots -/
theorem run_fnS {X : Cx} {CX : CXT} {k : Nat} {f : Addr} {sp : Sp} {E : XK} {Q : VK} {us : List Value} {vs : List V} {ps : List (Addr × Obj)} {σ : L2.St} {H : Hp} {s : Shared} (F : FnR X.prog X.w X.K X.mg X.base CX k f sp) (hr : Room k X.A) (hx : PassesAt CX X σ E) (I : Inv X ps σ H s) (r : Vals vs us) (h : sp vs H Q E) :
    codeAny (model X.prog X.w) X.A (.call (.ref f) ⟨us, []⟩) (fun r s' => match r with | .ok (.ret v) => EP X ps σ Q v s' | .ok _ => False | .error e => X.xe e s') s := by
  refine codeAny_mono (F X.A X.stack s H us vs Q E hr I.env0 r h) fun r s' hq => ?_
  match r, hq with
  | .error e, hq => exact hx ps H s e s' I hq
  | .ok (.ret u), hq => exact I.after hq
  | .ok .next, hq => exact hq.elim
  | .ok .brk, hq => exact hq.elim
  | .ok .cont, hq => exact hq.elim
/-- a op b, own, within a try -/
def tOpS (C : Addr) (sp : Sp) (E : L2.St → XK) (ta tb : TE) : TE := fun σ H Q => ta σ H fun x H1 => tb σ H1 fun y H2 => rBinOwn C sp (E σ) x y H2 Q
theorem pe_opS {X : Cx} {CX : CXT} {n : Nat} {f C : Addr} {sp : Sp} {E : L2.St → XK} {op : Operator} {a b : Expr} {ta tb : TE} {pos : Pos} (hm : Meth X.K C (PySem.dunder op.info.2) f) (hs : PySem.W.selfFirst X.K C = true) (F : FnR X.prog X.w X.K X.mg X.base CX n f sp) (hr : Room n X.A) (hx : ∀ σ, PassesAt CX X σ (E σ)) (ha : PE X a ta) (hb : PE X b tb) : PE X (.BinOp a op b pos) (tOpS C sp E ta tb) := by
  refine ⟨fun ps s0 σ H Q I h => wpAny_BinOp (binT ha hb I h fun v u s2 x y H2 I2 rx ry q => ?_)⟩
  obtain ⟨p, dx, fs, p2, dy, gs, rfl, rfl, h1, h2, q⟩ := q
  cases (show v = Value.ref p from rx)
  cases (show u = Value.ref p2 from ry)
  obtain ⟨ox, od, J⟩ := ins_inst I2 h1
  obtain ⟨oy, ody, J2⟩ := ins_inst I2 h2
  obtain ⟨m, hF⟩ := I2.fr
  refine PySem.W.binop_K hF I2.ok.mod.kin J J2.type hs hm.at_ hm.fn ?_
  refine wpAny_mono (wpAny_call (run_fnS (us := [.ref p, .ref p2]) (vs := [.ref p, .ref p2]) F hr (hx σ) I2 (.cons rfl (.cons rfl .nil)) q)) (fun w s' z => ?_) fun _ _ y => y
  obtain ⟨z', H', I', rz, qz⟩ := z
  exact SlX.cmpback rz ⟨z', H', I', rz, qz⟩
theorem r_opS {C : Addr} {sp : Sp} {E : L2.St → XK} {ta tb : TE} {σ : L2.St} {H : Hp} {Q : VK} (q : ta σ H fun x H1 => tb σ H1 fun y H2 => rBinOwn C sp (E σ) x y H2 Q) : tOpS C sp E ta tb σ H Q := q
end
local macro_rules | `(tactic| walk_at "v1") => `(tactic| (first
  | with_reducible refine r_trR ?_
  | with_reducible refine r_opS ?_))
local macro_rules | `(tactic| walk_at "v1") => `(tactic| with_reducible refine r_ostB ?_)

/-! methods of built-in values within a try -/
section
open PyProof.Rows
theorem pe_gBm {X : Cx} {K : PySem.W.Frag} {o e : Expr} {es : List Expr} {to : TE} {t : TA} {name : Str} {apos cpos : Pos} {T id : String} {r : V → List V → Hp → VK → Prop} (hK : X.K = K) (pa : PlainAttrs T) (slot : Slot T name id) (hty : typeOf (.builtin id) = pure (.type "method_descriptor")) (hm : MtR X id r) (ho : PE X o to) (ha : PA X (e :: es) t)
    (hbase : attributeBase o name X.env (eval o X.env) = eval o X.env := by rfl)
    (hfew : ((backTo cpos (starEach (e :: es) X.env)).all (fun x => !x.1) && (backToKw cpos (keywordEach [] X.env)).all (fun x => x.1.isSome)
      && decide ((e :: es).length + ([] : List Keyword).length + (if ([] : List Keyword).isEmpty then 0 else 1) < 30)) = true := by rfl)
    (hline : (apos.endLine == cpos.line) = true := by rfl) (hs : starEach (e :: es) X.env = (false, eval e X.env) :: starEach es X.env := by rfl) (hplain : (backTo cpos (starEach es X.env)).any (·.1) = false := by rfl) :
    PE X (.Call (.Attribute o name apos) (e :: es) [] cpos) (tBM K T r to t) := by
  subst hK
  exact pe_bm pa slot hty hm ho ha hbase hfew hline hs hplain
theorem pe_gBm0 {X : Cx} {K : PySem.W.Frag} {o : Expr} {to : TE} {name : Str} {apos cpos : Pos} {T id : String} {r : V → List V → Hp → VK → Prop} (hK : X.K = K) (pa : PlainAttrs T) (slot : Slot T name id) (hty : typeOf (.builtin id) = pure (.type "method_descriptor")) (hm : MtR X id r) (ho : PE X o to)
    (hbase : attributeBase o name X.env (eval o X.env) = eval o X.env := by rfl) (hline : (apos.endLine == cpos.line) = true := by rfl) : PE X (.Call (.Attribute o name apos) [] [] cpos) (tBM0 K T r to) := by
  subst hK
  exact pe_bm0 pa slot hty hm ho hbase hline
/-- not e as a value, by the truth of an own object -/
def tNotR (r : V → Hp → (Bool → Hp → Prop) → Prop) (ta : TE) : TE := fun σ H Q => ta σ H fun x H1 => r x H1 fun b H2 => Q (.bl (!b)) H2
theorem pe_notR {X : Cx} {a : Expr} {ta : TE} {pos : Pos} {r : V → Hp → (Bool → Hp → Prop) → Prop} (ha : PE X a ta) (hr : TruR X r) : PE X (.UnaryOp .Not a pos) (tNotR r ta) := by
  refine ⟨fun pins s σ H Q I h => ?_⟩
  refine UnaryOp_ (thn (ha.run pins s σ H _ I h) fun v s1 ⟨x, H1, I1, r1, q1⟩ => ?_)
  exact not_of (thn (hr pins s1 σ H1 x v (fun c H2 => Q (.bl (!c)) H2) I1 r1 q1) fun c s2 ⟨H2, I2, q2⟩ => ⟨.bl (!c), H2, I2, rfl, q2⟩)
theorem r_notR {σ : L2.St} {H : Hp} {ta : TE} {r : V → Hp → (Bool → Hp → Prop) → Prop} {Q : VK} (q : ta σ H fun x H1 => r x H1 fun b H2 => Q (.bl (!b)) H2) : tNotR r ta σ H Q := q
end
local macro_rules | `(tactic| walk_at "v1") => `(tactic| with_reducible refine r_notR ?_)

/-! texts split at a sign, every other item of a list, zip of a list and a tuple -/
section
open PyProof.Rows
/-! ### x.split(c) by its parts -/
def jl (c : Nat) : List (List Nat) → List Nat
  | [] => []
  | [a] => a
  | a :: b :: l => a ++ c :: jl c (b :: l)
theorem app_inj {c : Nat} : ∀ {a b : List Nat} {r s : List Nat}, c ∉ a → c ∉ b → a ++ c :: r = b ++ c :: s → a = b ∧ r = s
  | [], [], r, s, _, _, h => ⟨rfl, (List.cons.inj h).2⟩
  | [], y :: b, r, s, _, hb, h => (hb ((List.cons.inj h).1 ▸ List.mem_cons_self)).elim
  | x :: a, [], r, s, ha, _, h => (ha ((List.cons.inj h).1 ▸ List.mem_cons_self)).elim
  | x :: a, y :: b, r, s, ha, hb, h => by
    have h1 := List.cons.inj h
    have h2 := app_inj (a := a) (b := b) (fun z => ha (List.mem_cons_of_mem _ z)) (fun z => hb (List.mem_cons_of_mem _ z)) h1.2
    exact ⟨by rw [h1.1, h2.1], h2.2⟩
theorem jl_inj {c : Nat} : ∀ {xs ys : List (List Nat)}, xs ≠ [] → ys ≠ [] → (∀ a ∈ xs, c ∉ a) → (∀ b ∈ ys, c ∉ b) → jl c xs = jl c ys → xs = ys
  | [], _, hx, _, _, _, _ => (hx rfl).elim
  | _, [], _, hy, _, _, _ => (hy rfl).elim
  | [a], [b], _, _, _, _, h => by rw [show a = b from h]
  | [a], b :: b' :: ys, _, _, ha, _, h => by
    have h' : a = b ++ c :: jl c (b' :: ys) := h
    exact (ha a List.mem_cons_self (by rw [h']; simp)).elim
  | a :: a' :: xs, [b], _, _, _, hb, h => by
    have h' : a ++ c :: jl c (a' :: xs) = b := h
    exact (hb b List.mem_cons_self (by rw [← h']; simp)).elim
  | a :: a' :: xs, b :: b' :: ys, _, _, ha, hb, h => by
    have h' : a ++ c :: jl c (a' :: xs) = b ++ c :: jl c (b' :: ys) := h
    have h1 := app_inj (ha a List.mem_cons_self) (hb b List.mem_cons_self) h'
    have h2 := jl_inj (xs := a' :: xs) (ys := b' :: ys) (by simp) (by simp) (fun x hx => ha x (List.mem_cons_of_mem _ hx)) (fun x hx => hb x (List.mem_cons_of_mem _ hx)) h1.2
    rw [h1.1, h2]
theorem cps_app (x y : Str) : (x ++ y).cps.toList = x.cps.toList ++ y.cps.toList := Array.toList_append
theorem join_jl {c : Nat} : ∀ ts : List Str, (Str.join ⟨#[c]⟩ ts).cps.toList = jl c (ts.map fun t => t.cps.toList)
  | [] => rfl
  | [t] => rfl
  | t :: u :: l => by
    show (t ++ (⟨#[c]⟩ : Str) ++ Str.join ⟨#[c]⟩ (u :: l)).cps.toList = _
    rw [cps_app, cps_app, join_jl (u :: l)]
    show t.cps.toList ++ [c] ++ _ = t.cps.toList ++ c :: _
    rw [List.append_assoc]; rfl
theorem split_nn (x y : Str) : Txt.split x y ≠ [] := by
  unfold Txt.split
  split
  · simp
  · split
    · simp
    · unfold Builtin.Str.partsBetween
      simp only []
      cases Builtin.Str.occurrences x y 0 x.length (x.length + 1) <;> simp
theorem str_eq_of {x y : Str} (h : x.cps.toList = y.cps.toList) : x = y := by
  obtain ⟨⟨a⟩⟩ := x; obtain ⟨⟨b⟩⟩ := y
  rw [show a = b from h]
theorem map_cps_inj : ∀ {xs ys : List Str}, xs.map (fun t => t.cps.toList) = ys.map (fun t => t.cps.toList) → xs = ys
  | [], [], _ => rfl
  | [], y :: ys, h => by cases h
  | x :: xs, [], h => by cases h
  | x :: xs, y :: ys, h => by
    have h1 := List.cons.inj h
    rw [str_eq_of h1.1, map_cps_inj h1.2]
/-- x is these parts, c in none of them -/
theorem split_is {x : Str} {ts : List Str} {c : Nat} (h : Str.join ⟨#[c]⟩ ts = x) (hn : ts ≠ []) (hf : ∀ p ∈ ts, c ∉ p.cps.toList) : Txt.split x ⟨#[c]⟩ = ts := by
  have h1 := StrLaws.join_split x ⟨#[c]⟩
  have h2 : jl c ((Txt.split x ⟨#[c]⟩).map fun t => t.cps.toList) = jl c (ts.map fun t => t.cps.toList) := by
    rw [← join_jl, ← join_jl, h1, h]
  refine map_cps_inj (jl_inj (by simpa using split_nn x ⟨#[c]⟩) (by simpa using hn) ?_ ?_ h2)
  · intro a ha
    obtain ⟨t, ht, rfl⟩ := List.mem_map.1 ha
    exact StrLaws.split_free x c t ht
  · intro a ha
    obtain ⟨t, ht, rfl⟩ := List.mem_map.1 ha
    exact hf t ht
def gSplit : V → List V → Hp → VK → Prop := fun x xs H Q => ∃ a b, x = .str a ∧ xs = [.str b] ∧ (b.length == 0) = false ∧ a.length + 2 ≤ sizeLine ∧ rNewStrs (Txt.split a b) H Q
theorem mt_gSplit {X : Cx} : MtR X "str.split" gSplit := mt_split
theorem m_split {l : List Asn} {H : Hp} {Q : VK} {a sep : Str} {c : Nat} (S : Sep l H) (hz : a.length ≤ 3000) (hs : sep = ⟨#[c]⟩) (k : ∀ D H', Sep (At D (.lst ((Txt.split a ⟨#[c]⟩).map V.str)) :: l) H' → Q (.ref D) H') : gSplit (.str a) [.str sep] H Q := by
  subst hs
  exact ⟨a, ⟨#[c]⟩, rfl, rfl, rfl, Nat.le_trans (Nat.add_le_add_right hz 2) (by decide), fun D hD => k D _ (S.new hD)⟩
theorem jl_mem {c : Nat} : ∀ {xs : List (List Nat)} {a : List Nat}, a ∈ xs → a.length ≤ (jl c xs).length
  | [x], a, h => by rw [List.mem_singleton.1 h]; exact Nat.le_refl _
  | x :: y :: l, a, h => by
    show _ ≤ (x ++ c :: jl c (y :: l)).length
    rw [List.length_append, List.length_cons]
    rcases List.mem_cons.1 h with rfl | h
    · omega
    · have := jl_mem (c := c) h
      omega
theorem jl_cnt {c : Nat} : ∀ xs : List (List Nat), xs.length ≤ (jl c xs).length + 1
  | [] => Nat.zero_le _
  | [x] => by simp
  | x :: y :: l => by
    have h := jl_cnt (c := c) (y :: l)
    show _ ≤ (x ++ c :: jl c (y :: l)).length + 1
    simp only [List.length_append, List.length_cons] at h ⊢
    omega
theorem split_jl (x : Str) (c : Nat) : jl c ((Txt.split x ⟨#[c]⟩).map fun t => t.cps.toList) = x.cps.toList := by rw [← join_jl, StrLaws.join_split]
theorem split_mem {x p : Str} {c : Nat} (h : p ∈ Txt.split x ⟨#[c]⟩) : p.length ≤ x.length := by
  have h1 := jl_mem (c := c) (List.mem_map.2 ⟨p, h, rfl⟩ : p.cps.toList ∈ (Txt.split x ⟨#[c]⟩).map fun t => t.cps.toList)
  rw [split_jl] at h1
  simpa [Str.length] using h1
theorem split_cnt (x : Str) (c : Nat) : (Txt.split x ⟨#[c]⟩).length ≤ x.length + 1 := by
  have h1 := jl_cnt (c := c) ((Txt.split x ⟨#[c]⟩).map fun t => t.cps.toList)
  rw [split_jl, List.length_map] at h1
  simpa [Str.length] using h1
/-- int(text), text of a digit -/
def gIntS : List V → Hp → VK → Prop := fun xs H Q => ∃ a n, xs = [.str a] ∧ PySem.intText? a = some n ∧ a.length ≤ 640 ∧ Q (.int n) H
theorem call_gIntS {X : Cx} : CallR X (.type "int") gIntS := call_int_str
def dig (n : Nat) : Str := ⟨#[48 + n]⟩
theorem dig_int : ∀ n : Fin 10, PySem.intText? (dig n) = some ((n : Nat) : Int) := by decide +kernel
theorem dig_of : ∀ n : Fin 10, Str.ofString (toString ((n : Nat) : Int)) = dig n := by decide +kernel
theorem c_intS {H : Hp} {Q : VK} {n : Nat} (h : n < 10) (q : Q (.int (n : Nat)) H) : gIntS [.str (dig n)] H Q := ⟨dig n, _, rfl, dig_int ⟨n, h⟩, by show 1 ≤ 640; decide, q⟩
/-! ### every other item -/
def ev {α : Type} : List α → List α
  | [] => []
  | [x] => [x]
  | x :: _ :: l => x :: ev l
theorem ev_len {α : Type} : ∀ l : List α, (ev l).length = (l.length + 1) / 2
  | [] => by simp [ev]
  | [x] => by simp [ev]
  | x :: y :: l => by
    show (ev l).length + 1 = _
    rw [ev_len l]
    show _ = (l.length + 1 + 1 + 1) / 2
    omega
theorem ev_map {α β : Type} (f : α → β) : ∀ l : List α, ev (l.map f) = (ev l).map f
  | [] => rfl
  | [x] => rfl
  | x :: y :: l => by
    show f x :: ev (l.map f) = f x :: (ev l).map f
    rw [ev_map f l]
theorem ev_mem {α : Type} : ∀ {l : List α} {x : α}, x ∈ ev l → x ∈ l
  | [x], y, h => h
  | x :: y :: l, z, h => by
    rcases List.mem_cons.1 h with rfl | h
    · exact List.mem_cons_self
    · exact List.mem_cons_of_mem _ (List.mem_cons_of_mem _ (ev_mem h))
theorem ev_vals : ∀ {xs : List V} {vs : List Value}, Vals xs vs → Vals (ev xs) (ev vs)
  | _, _, .nil => .nil
  | _, _, .cons r .nil => .cons r .nil
  | _, _, .cons r (.cons _ h) => .cons r (ev_vals h)
theorem ev_get {α : Type} : ∀ (l : List α) (k : Nat), (ev l)[k]? = l[2 * k]?
  | [], k => by simp [ev]
  | [x], 0 => rfl
  | [x], k + 1 => by
    rw [List.getElem?_eq_none (by simp [ev]), List.getElem?_eq_none (by simp; omega)]
  | x :: y :: l, 0 => rfl
  | x :: y :: l, k + 1 => by
    show (x :: ev l)[k + 1]? = _
    rw [List.getElem?_cons_succ, ev_get l k, show 2 * (k + 1) = 2 * k + 1 + 1 by omega, List.getElem?_cons_succ, List.getElem?_cons_succ]
theorem fm_get {α β : Type} {f : β → Option α} : ∀ {ks : List β} {l : List α}, ks.length = l.length → (∀ (i : Nat) (k : β), ks[i]? = some k → f k = l[i]?) → ks.filterMap f = l
  | [], [], _, _ => rfl
  | [], y :: l, h, _ => by simp at h
  | k :: ks, [], h, _ => by simp at h
  | k :: ks, y :: l, h, g => by
    have h1 : f k = some y := g 0 k rfl
    rw [List.filterMap_cons, h1]
    exact congrArg (y :: ·) (fm_get (by simpa using h) fun i k' e => by simpa using g (i + 1) k' (by simpa using e))
theorem sliceRange_two (a n : Nat) (h : a ≤ n) : sliceRange (a : Int) (n : Int) 2 = (List.range ((n - a + 1) / 2)).map fun k => a + 2 * k := by
  unfold sliceRange
  by_cases c : a < n
  · have e : (((n : Int) - (a : Int) + 2 - 1) / 2).toNat = (n - a + 1) / 2 := by omega
    have c' : (a : Int) < (n : Int) := by omega
    simp only [show (2 : Int) > 0 by decide, if_true, c', e]
    apply List.map_congr_left
    intro k _
    omega
  · have e : a = n := by omega
    subst e
    simp
theorem pick_two (its : List Value) (a : Nat) (ha : a ≤ its.length) : (((sliceRange (a : Int) (its.length : Int) 2).filterMap (its.toArray[·]?)).toArray : Array Value) = (ev (its.drop a)).toArray := by
  congr 1
  rw [sliceRange_two a _ ha]
  refine fm_get ?_ fun i k e => ?_
  · rw [List.length_map, List.length_range, ev_len, List.length_drop]
  · rw [List.getElem?_map] at e
    by_cases c : i < (its.length - a + 1) / 2
    · rw [List.getElem?_range c] at e
      cases e
      rw [ev_get, List.getElem?_drop]
      simp
    · rw [List.getElem?_eq_none (by simpa using Nat.le_of_not_lt c)] at e
      cases e
theorem pick_ev0 (its : List Value) : slicePick its.toArray none none (some 2) = (ev its).toArray := by
  have h := pick_two its 0 (Nat.zero_le _)
  rw [List.drop_zero] at h
  rw [← h]
  unfold slicePick sliceBounds
  simp
theorem pick_ev1 (its : List Value) : slicePick its.toArray (some 1) none (some 2) = (ev (its.drop 1)).toArray := by
  by_cases c : 1 ≤ its.length
  · have h := pick_two its 1 c
    rw [← h]
    unfold slicePick sliceBounds
    simp
    have e : min (1 : Int) (its.length : Int) = 1 := by omega
    rw [e]
    rfl
  · have e : its = [] := List.length_eq_zero_iff.1 (by omega)
    subst e
    decide +kernel
def evFrom (lo : Option Int) (xs : List V) : List V := match lo with | none => ev xs | some _ => ev (xs.drop 1)
def gSlEv (K : PySem.W.Frag) (x : V) (lo : Option Int) (H2 : Hp) (Q : VK) : Prop := (lo = none ∨ lo = some 1) ∧ ∃ a xs, x = .ref a ∧ SqL K H2 a xs ∧ ∀ p, H2 p = none → Q (.ref p) (upd H2 p (.lst (evFrom lo xs)))
def tSlEv (K : PySem.W.Frag) (te : TE) (tl : TO) : TE := fun σ H Q => te σ H fun x H1 => tl σ H1 fun lo H2 => gSlEv K x lo H2 Q
theorem pe_sliceEv {X : Cx} {K : PySem.W.Frag} {e : Expr} {lo : Option Expr} {te : TE} {tl : TO} {k : Nat} {p1 p3 pos : Pos} (hK : X.K = K) (he : PE X e te) (hl : PO X lo tl) : PE X (.Subscript e (.Slice lo none (some (.Constant (.int 2) k p1)) p3) pos) (tSlEv K te tl) := by
  subst hK
  refine ⟨fun pins s σ H Q I h => Subscript_ (thn (he.run pins s σ H _ I h) fun v s1 z => ?_)⟩
  obtain ⟨x, H1, I1, r1, q1⟩ := z
  refine wpAny_Slice (thn (hl.run pins s1 σ H1 _ I1 q1) fun vl s2 z => ?_)
  obtain ⟨o, H2, I2, pl, ho, a, xs, rfl, hx, q⟩ := z
  cases (show v = Value.ref a from r1)
  refine thn ((po_none (X := X)).run pins s2 σ H2 (fun o H3 => o = none ∧ H3 = H2) I2 ⟨rfl, rfl⟩) fun vu s3 z => ?_
  obtain ⟨u, H3, I3, pu, rfl, rfl⟩ := z
  have two : PO X (some (.Constant (.int 2) k p1)) (tPart (tC (.int 2))) := po_some pe_int
  refine thn (two.run pins s3 σ H3 (fun o H4 => o = some 2 ∧ H4 = H3) I3 ⟨2, rfl, rfl, rfl⟩) fun vs s4 z => ?_
  obtain ⟨o4, H4, I4, ps, rfl, rfl⟩ := z
  have I5 : Inv X pins σ H4 { s4 with heap := s4.heap.push { cls := .type "slice", data := .fields #[vl, vu, vs] } } := I4.kept (t' := s4.toks) fun b ob q => Heap.get?_push_of_some _ q
  obtain ⟨its, r, ht, hz⟩ := I5.list hx
  have hlen := r.length
  show wpAny (model X.prog X.w) X.A (subscriptTail e (.Slice lo none (some (.Constant (.int 2) k p1)) p3) (.ref a) (.ref s4.heap.objs.size)) (EP X pins σ Q) X.xe _
  refine tail_any (ops := [.ref a, .ref s4.heap.objs.size]) ht.isList.typeIs (PySem.slot_list_getitem.lookup) ?_ (by with_unfolding_all rfl)
  refine wpAny_getItem_list_slice ht.isList (Heap.IsSliceOf.new _ vl vu vs) pl pu ps (by decide) ?_ (by rw [List.size_toArray]; omega)
  have fin : ∀ (ys : List V) (us : List Value), Vals ys us → ys.length ≤ xs.length → (∀ p, H4 p = none → Q (.ref p) (upd H4 p (.lst ys))) → EP X pins σ Q (.ref (s4.heap.push { cls := .type "slice", data := .fields #[vl, vu, vs] }).objs.size) { s4 with heap := (s4.heap.push { cls := .type "slice", data := .fields #[vl, vu, vs] }).push { cls := .type "list", data := .seq us.toArray } } := by
    intro ys us hv hle k
    exact ⟨.ref _, _, I5.laid (t' := s4.toks) (o := .lst ys) (fun b ob q => Heap.get?_push_of_some _ q) (Nat.le_refl _) ⟨Nat.le_trans hle hz, _, 0, hv, Heap.get?_push_size _ rfl⟩, rfl, k _ (I5.hok.fresh (Nat.le_refl _))⟩
  rcases ho with rfl | rfl
  · rw [pick_ev0]
    exact fin _ _ (ev_vals r) (by rw [ev_len]; omega) q
  · rw [pick_ev1]
    exact fin _ _ (ev_vals (r.drop 1)) (by rw [ev_len, List.length_drop]; omega) q
/-! ### zip of a list and a tuple -/
def ItzM (K : PySem.W.Frag) (a b : Addr) : L2.It :=
  ⟨fun i H => ∃ xs ys, SqL K H a xs ∧ SqT K H b ys ∧ i < xs.length ∧ i < ys.length,
   fun i H v H' => ∃ T x y, v = .ref T ∧ H T = none ∧ H' = upd H T (.tup [x, y]) ∧ (∀ xs, SqL K H a xs → xs[i]? = some x) ∧ (∀ ys, SqT K H b ys → ys[i]? = some y),
   fun i H => ∃ xs ys, SqL K H a xs ∧ SqT K H b ys ∧ i ≤ xs.length ∧ i ≤ ys.length ∧ (i = xs.length ∨ i = ys.length)⟩
def ZmAt (a b z TI TO i1 i2 : Addr) (i : Nat) (h : Heap) : Prop := IsZip h z TI TO .none ∧ IsTupOf2 h TI (.ref i1) (.ref i2) ∧ (∃ x y, IsTupOf2 h TO x y) ∧ h.IsListIter i1 a i ∧ h.IsTupleIter i2 b i
theorem turn_zipM {P : Program} {w : World} {K : PySem.W.Frag} {tg : Expr} {elts : List Expr} {kk : Nat} {tpos : Pos} {a b z TI TO i1 i2 : Addr} (S : ZipSep2 z TI TO i1 i2 [i1, a] [i2, b]) (n1 : a ≠ i1) (n2 : b ≠ i2) (htg : tg = .Tuple elts kk tpos) :
    Turn P w K tg (ItzM K a b) [z, TI, TO, i1, i2] z (ZmAt a b z TI TO i1 i2) := by
  subst htg
  have cells : ∀ {c : Addr}, c ∈ [z, TI, TO, i1, i2] → c = z ∨ c = TI ∨ c = TO ∨ c = i1 ∨ c = i2 := fun h => by simpa using h
  refine ⟨by simp, ?_, ?_, ?_, ?_, fun A i s Q E st h => wpAny_pyIter_zip st.1 h⟩
  · rintro i h ⟨hz, hTI, ⟨x, y, hTO⟩, ⟨o1, e1, _, d1⟩, o2, e2, _, d2⟩ c hc
    rcases cells hc with rfl | rfl | rfl | rfl | rfl
    · exact ⟨_, hz, nofun⟩
    · exact ⟨_, hTI, nofun⟩
    · exact ⟨_, hTO, nofun⟩
    · exact ⟨o1, e1, fun v => by rw [d1]; nofun⟩
    · exact ⟨o2, e2, fun v => by rw [d2]; nofun⟩
  · rintro i h h' ⟨hz, hTI, ⟨x, y, hTO⟩, t1, t2⟩ k
    exact ⟨k _ (by simp) _ hz, k _ (by simp) _ hTI, ⟨x, y, k _ (by simp) _ hTO⟩, t1.at fun o => k i1 (by simp) o, t2.at fun o => k i2 (by simp) o⟩
  · intro X hP hw hK hc i pins s σ H E I hf st hg
    subst hP hw hK
    obtain ⟨hz, hTI, ⟨x0, y0, hTO⟩, t1, t2⟩ := st
    obtain ⟨xs, ys, hx, hy, lx, ly⟩ := hg
    obtain ⟨its, rv, p1, _⟩ := I.list hx
    obtain ⟨jts, rw', p2, _⟩ := I.tuple hy
    have len1 : its.toArray.size = xs.length := by rw [List.size_toArray]; exact rv.length.symm
    have len2 : jts.toArray.size = ys.length := by rw [List.size_toArray]; exact rw'.length.symm
    have hdl : X.A.in1.handled = none := I.ok.hd hc
    have zl : z < s.heap.objs.size := Heap.lt_size hz
    refine wpAny_pyNext_zipD2_item S (Draws.list hdl i1 a n1 its.toArray) (Draws.tuple hdl i2 b n2 jts.toArray) hz hTI hTO ⟨t1, p1.isList⟩ ⟨t2, p2⟩ (by rw [len1]; exact lx) (by rw [len2]; exact ly) ?_
    intro u1 u2 h' tk g1 g2 z' TO' u1' u2' hT hsz hk
    refine ⟨_, rfl, wpAny_letOwnedTupleGo_zip (s := { s with heap := h', toks := tk }) z' fun h'' z'' sb => ?_⟩
    obtain ⟨x, ex, rx⟩ : ∃ x, xs[i]? = some x ∧ RelV x u1 := by
      obtain ⟨u, hu, ru⟩ := rv.get (List.getElem?_eq_getElem lx)
      refine ⟨_, List.getElem?_eq_getElem lx, ?_⟩
      have : its[i]? = some u1 := by simpa using g1
      rw [this] at hu
      cases hu
      exact ru
    obtain ⟨y, ey, ry⟩ : ∃ y, ys[i]? = some y ∧ RelV y u2 := by
      obtain ⟨u, hu, ru⟩ := rw'.get (List.getElem?_eq_getElem ly)
      refine ⟨_, List.getElem?_eq_getElem ly, ?_⟩
      have : jts[i]? = some u2 := by simpa using g2
      rw [this] at hu
      cases hu
      exact ru
    have pair : h''.get? s.heap.objs.size = some { cls := .type "tuple", data := .seq #[u1, u2] } := (sb.2 _ (Nat.ne_of_gt zl)).trans hT
    have ok : ObjOk X.prog X.w (upd H s.heap.objs.size (.tup [x, y])) h'' s.heap.objs.size (.tup [x, y]) := ⟨by show 2 ≤ sizeLine; decide, [u1, u2], .cons rx (.cons ry .nil), ⟨_, pair, rfl, _, rfl⟩⟩
    have out : ∀ c o, c ∉ [z, TI, TO, i1, i2] → s.heap.get? c = some o → h''.get? c = some o := fun c o hb q =>
      (sb.2 c (by rintro rfl; simp at hb)).trans (hk c o (by rintro rfl; simp at hb) (by rintro rfl; simp at hb) (by rintro rfl; simp at hb) (by rintro rfl; simp at hb) q)
    refine ⟨.ref s.heap.objs.size, upd H s.heap.objs.size (.tup [x, y]), I.turnedNew (t' := tk) (ch := [z, TI, TO, i1, i2]) out hf (Nat.le_refl _) ok, rfl, ⟨s.heap.objs.size, x, y, rfl, I.hok.fresh (Nat.le_refl _), rfl, fun l hl => by rw [I.list_inj hl hx]; exact ex, fun l hl => by rw [I.tuple_inj hl hy]; exact ey⟩, ⟨z'', (sb.2 _ S.TIz).trans (hk _ _ S.TIz S.TITO S.TIi1 S.TIi2 hTI), ⟨u1, u2, (sb.2 _ S.TOz).trans TO'⟩, u1'.1.at fun o => (sb.2 _ (Ne.symm S.zi1)).trans, u2'.1.at fun o => (sb.2 _ (Ne.symm S.zi2)).trans⟩, fun c hcm => ?_⟩
    obtain ⟨o1, e1, _⟩ := t1
    obtain ⟨o2, e2, _⟩ := t2
    have cl : c < s.heap.objs.size := by
      rcases cells hcm with rfl | rfl | rfl | rfl | rfl
      · exact zl
      · exact Heap.lt_size hTI
      · exact Heap.lt_size hTO
      · exact Heap.lt_size e1
      · exact Heap.lt_size e2
    rw [upd_ne (Nat.ne_of_lt cl)]
    exact (hf c hcm).1
  · intro X hP hw hK hc i pins s σ H E I hf st hg
    subst hP hw hK
    obtain ⟨hz, hTI, ⟨x0, y0, hTO⟩, t1, t2⟩ := st
    obtain ⟨xs, ys, hx, hy, lx, ly, hend⟩ := hg
    obtain ⟨its, rv, p1, _⟩ := I.list hx
    obtain ⟨jts, rw', p2, _⟩ := I.tuple hy
    have len1 : its.toArray.size = xs.length := by rw [List.size_toArray]; exact rv.length.symm
    have len2 : jts.toArray.size = ys.length := by rw [List.size_toArray]; exact rw'.length.symm
    have hdl : X.A.in1.handled = none := I.ok.hd hc
    refine wpAny_pyNext_zipD2_end S (Draws.list hdl i1 a n1 its.toArray) (Draws.tuple hdl i2 b n2 jts.toArray) hz hTI hTO ⟨t1, p1.isList⟩ ⟨t2, p2⟩ (by rw [len1]; exact lx) (by rw [len2]; exact ly) (by rw [len1, len2]; exact hend) ?_
    intro h' tk hk
    exact ⟨rfl, I.turnedL (t' := tk) (ch := [z, TI, TO, i1, i2]) (fun c o hb q => hk c o (by rintro rfl; simp at hb) (by rintro rfl; simp at hb) (by rintro rfl; simp at hb) (by rintro rfl; simp at hb) q) hf⟩
theorem zsep (n a b : Nat) (la : a < n) (lb : b < n) : ZipSep2 (n + 4) (n + 2) (n + 3) n (n + 1) [n, a] [n + 1, b] := by
  have out : ∀ {c d e : Nat}, c ≠ d → c ≠ e → c ∉ [d, e] := fun h1 h2 h => by
    rcases List.mem_cons.1 h with h | h
    · exact h1 h
    · exact h2 (List.mem_singleton.1 h)
  have g : ∀ {c d : Nat}, c < d → d ≠ c := fun h => Nat.ne_of_gt h
  have g' : ∀ {c d : Nat}, c < d → c ≠ d := fun h => Nat.ne_of_lt h
  exact ⟨g' (by omega), g' (by omega), g' (by omega), g (by omega), List.mem_cons_self, out (g (by omega)) (g (by omega)), out (g (by omega)) (g (by omega)), g (by omega), List.mem_cons_self, out (g (by omega)) (g (by omega)), out (g (by omega)) (g (by omega)), out (g' (by omega)) (g (by omega)), out (g (by omega)) (g (by omega))⟩
def iZipM (K : PySem.W.Frag) (ta : TA) : TI := fun σ H R => ta σ H fun vs H1 => ∃ a b xs ys, vs = [.ref a, .ref b] ∧ SqL K H1 a xs ∧ SqT K H1 b ys ∧ R (ItzM K a b) H1
theorem pi_zipM {X : Cx} {K : PySem.W.Frag} {e e2 : Expr} {ta : TA} {p pos tpos : Pos} {elts : List Expr} {kk : Nat} (hK : X.K = K) (hg : Gl X "zip") (hm : X.mg "zip" = none) (ha : PA X [e, e2] ta)
    (hs : starEach [e, e2] X.env = (false, eval e X.env) :: starEach [e2] X.env := by rfl) (hpl : (backTo pos (starEach [e2] X.env)).any (·.1) = false := by rfl) : PI X (.Tuple elts kk tpos) (.Call (.Name "zip" p) [e, e2] [] pos) (iZipM K ta) := by
  subst hK
  constructor
  intro pins s σ H R I h
  refine Call_ (ld_blt I hg hm PyProof.Rows.boot_zip (PyProof.Rows.callWith_type1 (thn (ha.run pos pins s σ H _ I h) fun us s1 z => ?_) hs hpl))
  obtain ⟨vs, H1, I1, r1, a, b, xs, ys, rfl, hx, hy, q⟩ := z
  obtain ⟨u1, u2, rfl, e1, e2⟩ := r1.two
  cases (show u1 = Value.ref a from e1)
  cases (show u2 = Value.ref b from e2)
  obtain ⟨its, rv, p1, _⟩ := I1.list hx
  obtain ⟨jts, rw', p2, _⟩ := I1.tuple hy
  have la : a < s1.heap.objs.size := p1.lt
  have lb : b < s1.heap.objs.size := by obtain ⟨o, e, _⟩ := id p2; exact Heap.lt_size e
  refine zip_begins2 (begins_list a its.toArray) (begins_tuple b jts.toArray) p1.isList p2 ?_
  intro h' hz hTI hTO h1 h2 hsz hk
  refine wpAny_pyIter_zip hz ?_
  have I2 : Inv X pins σ H1 { s1 with heap := h' } := I1.kept (t' := s1.toks) hk
  have sep := zsep s1.heap.objs.size a b la lb
  refine ⟨_, _, _, _, H1, rfl, I2, turn_zipM sep (Nat.ne_of_lt la) (Nat.ne_of_lt (Nat.lt_succ_of_lt lb)) rfl, ⟨hz, hTI, ⟨_, _, hTO⟩, ⟨_, h1, rfl, rfl⟩, ⟨_, h2, rfl, rfl⟩⟩, ?_, q⟩
  intro c hc
  have hle : s1.heap.objs.size ≤ c := by
    have h5 : c = s1.heap.objs.size + 4 ∨ c = s1.heap.objs.size + 2 ∨ c = s1.heap.objs.size + 3 ∨ c = s1.heap.objs.size ∨ c = s1.heap.objs.size + 1 := by simpa using hc
    show (_ : Nat) ≤ _
    rcases h5 with e | e | e | e | e <;> rw [e] <;> omega
  exact I1.fpOk hle (I1.hok.fresh hle)
section
variable {σ : L2.St} {H : Hp} {K : PySem.W.Frag} {g : TG} {tt : TT} {ta : TE} {tA : TA} {vs : List Nat} {Q : VK} {l : List Asn} {p q : Addr} {xs ys : List V} {i j : Nat} {te : TE} {tl : TO}
theorem r_lcZM (h : tA σ H fun us H1 => ∃ a b xs ys, us = [.ref a, .ref b] ∧ SqL K H1 a xs ∧ SqT K H1 b ys ∧ LcB (ItzM K a b) g tt ta vs σ H1 Q) : tLc (iZipM K tA) g tt ta vs σ H Q := h
/-- .. over zip(a list, a tuple) -/
theorem lcZM (S : Sep l H) (hi : l[i]? = some (At p (.lst xs))) (hj : l[j]? = some (Tp q ys)) (hn : ys.length ≤ xs.length) (Pv : Addr → Nat → Hp → Prop) (h0 : ∀ D H', Sep (At D (.lst []) :: l) H' → Pv D 0 H') (hl : ∀ D i H, Pv D i H → SqL K H p xs ∧ SqT K H q ys)
    (hs : ∀ D i x y T H H', xs[i]? = some x → ys[i]? = some y → Pv D i H → H T = none → H' = upd H T (.tup [x, y]) → LcT g tt ta vs σ (.ref T) D (Pv D (i + 1)) H') (hd : ∀ D H, Pv D ys.length H → Q (.ref D) H) :
    ∃ a b xs ys, [V.ref p, V.ref q] = [.ref a, .ref b] ∧ SqL K H a xs ∧ SqT K H b ys ∧ LcB (ItzM K a b) g tt ta vs σ H Q := by
  refine ⟨p, q, xs, ys, rfl, SqL.of (S.at hi), SqT.of (S.tp hj), fun D hD => ⟨fun i m H => m = ys.length - i ∧ i ≤ ys.length ∧ Pv D i H, ⟨ys.length, by simp, Nat.zero_le _, h0 D _ (S.new hD)⟩, ?_⟩⟩
  rintro i m H ⟨rfl, hi, pv⟩
  obtain ⟨qx, qy⟩ := hl D i H pv
  by_cases c : i < ys.length
  · refine .inr ⟨⟨xs, ys, qx, qy, by omega, c⟩, Pv D (i + 1), fun H' p' => ⟨ys.length - (i + 1), by omega, rfl, c, p'⟩, ?_⟩
    rintro v H' ⟨T, x, y, rfl, hn, rfl, f1, f2⟩
    exact hs D i x y T H _ (f1 xs qx) (f2 ys qy) pv hn rfl
  · have e : i = ys.length := by omega
    subst e
    exact .inl ⟨⟨xs, ys, qx, qy, hn, Nat.le_refl _, .inr rfl⟩, hd D H pv⟩
theorem r_slEv (h : te σ H fun x H1 => tl σ H1 fun lo H2 => gSlEv K x lo H2 Q) : tSlEv K te tl σ H Q := h
theorem sl_ev {lo : Option Int} (S : Sep l H) (hi : l[i]? = some (At p (.lst xs))) (hlo : lo = none ∨ lo = some 1) (k : ∀ D H', Sep (At D (.lst (evFrom lo xs)) :: l) H' → Q (.ref D) H') : gSlEv K (.ref p) lo H Q :=
  ⟨hlo, p, xs, rfl, SqL.of (S.at hi), fun D hD => k D _ (S.new hD)⟩
end
/-! C(e, *xs) -/
def tStarK (K : PySem.W.Frag) (te : TE) (t : TA) : TA := fun σ H Q => te σ H fun x H1 => ∃ p xs, x = V.ref p ∧ (SqT K H1 p xs ∨ SqL K H1 p xs) ∧ t σ H1 fun ys H2 => Q (xs ++ ys) H2
theorem pa_gStar {X : Cx} {K : PySem.W.Frag} {e : Expr} {es : List Expr} {te : TE} {t : TA} {p : Pos} (hK : X.K = K) (he : PE X e te) (hr : PA X es t) (hs : starEach (.Starred e p :: es) X.env = (true, eval e X.env) :: starEach es X.env := by rfl) : PA X (.Starred e p :: es) (tStarK K te t) := by
  subst hK
  exact StX.pa_star he hr hs
section
variable {σ : L2.St} {H : Hp} {K : PySem.W.Frag} {Q : List V → Hp → Prop} {l : List Asn} {p : Addr} {xs : List V} {i : Nat} {te : TE} {t : TA} {R : Prop}
theorem r_star (q : te σ H fun x H1 => ∃ p xs, x = V.ref p ∧ (SqT K H1 p xs ∨ SqL K H1 p xs) ∧ t σ H1 fun ys H2 => Q (xs ++ ys) H2) : tStarK K te t σ H Q := q
theorem c_starL {R : List V → Prop} (S : Sep l H) (hi : l[i]? = some (At p (.lst xs))) (q : R xs) : ∃ p' xs', V.ref p = V.ref p' ∧ (SqT K H p' xs' ∨ SqL K H p' xs') ∧ R xs' := ⟨p, xs, rfl, .inr (SqL.of (S.at hi)), q⟩
end
theorem pe_makeS {X : Cx} {CX : CXT} {k : Nat} {f C : Addr} {sp : Sp} {E : XK} {x : Str} {e : Expr} {es : List Expr} {t : TA} {p pos : Pos} (M : Mk X.K C f) (F : FnR X.prog X.w X.K X.mg X.base CX k f sp) (hr : Room (k + 1) X.A) (hg : Gl X x) (hm : X.mg x = some (.ref C)) (hx : Passes CX X E) (ha : PA X (e :: es) t)
    (hdb : (x == ("__debug__" : Str)) = false := by decide) (he : starEach (e :: es) X.env = (false, eval e X.env) :: starEach es X.env := by rfl) (hst : (backTo pos (starEach es X.env)).any (·.1) = true := by rfl) : PE X (.Call (.Name x p) (e :: es) [] pos) (StX.tMakeR C sp E t) := by
  constructor
  intro pins s σ H Q I h
  refine wpAny_Call_Name_kw (ld_glob I hg hm (PySem.W.callWith_S2 (h₀ := X.base) I.ok.mod.kin M.kp (thn (ha.run pos pins s σ H _ I h) fun us s1 z => ?_) he hst) hdb)
  obtain ⟨vs, H1, I1, r, q⟩ := z
  exact ⟨I1.kIn, StX.run_makeR M F hr hx I1 r q⟩
end
local macro_rules | `(tactic| walk_at "v1") => `(tactic| (first
  | with_reducible refine r_star ?_
  | with_reducible refine r_lcZM ?_
  | with_reducible refine r_slEv ?_
  | ((with_reducible refine' sl_ev (by assumption) ?hi ?hlo ?_); (case hi => walk_at "has"); (case hlo => first | exact .inl rfl | exact .inr rfl); intro _ _ _)))

/-! texts cut, great letters -/
section
open PyProof.Rows
def gUpper : V → List V → Hp → VK → Prop := fun x xs H Q => ∃ a, x = .str a ∧ xs = [] ∧ a.length ≤ 5592405 ∧ Q (.str (Txt.upper a)) H
theorem mt_gUpper {X : Cx} : MtR X "str.upper" gUpper := mt_upper
theorem m_upper {H : Hp} {Q : VK} {a : Str} (hz : a.length ≤ 3000) (q : Q (.str (Txt.upper a)) H) : gUpper (.str a) [] H Q := ⟨a, rfl, rfl, by omega, q⟩
theorem cutS_n {p q : Str} {n : Nat} (h : n = p.length) : cutS (p ++ q) none (some (n : Int)) = p := by
  subst h
  refine str_eq_of ?_
  unfold cutS
  rw [HT.sIx_nat, HT.sIx_none, cps_app, Nat.sub_zero, List.drop_zero]
  have e : min p.length (p ++ q).length = p.cps.toList.length := by
    rw [show (p ++ q).length = p.length + q.length from by simp [Str.length, ← Array.length_toList, cps_app]]
    rw [Nat.min_eq_left (Nat.le_add_right _ _)]
    simp [Str.length]
  show ((p.cps.toList ++ q.cps.toList).take _).toArray.toList = _
  rw [e, List.take_left]
theorem cutS_m {p q : Str} {n : Nat} (h : n = q.length) (h0 : 0 < n) : cutS (p ++ q) none (some (-(n : Int))) = p := by
  subst h
  refine str_eq_of ?_
  have e0 : (p ++ q).length = p.length + q.length := by simp [Str.length, ← Array.length_toList, cps_app]
  unfold cutS
  rw [HT.sIx_none, cps_app, Nat.sub_zero, List.drop_zero]
  have e : HT.sIx (p ++ q).length (p ++ q).length (some (-(q.length : Int))) = p.cps.toList.length := by
    show (if (-(q.length : Int)) < 0 then ((-(q.length : Int)) + ((p ++ q).length : Int)).toNat else _) = _
    rw [if_pos (by omega), e0]
    simp [Str.length]
    omega
  show ((p.cps.toList ++ q.cps.toList).take _).toArray.toList = _
  rw [e, List.take_left]
theorem at_m2 {l : List Nat} {c d : Nat} : atI (l ++ [c, d]) (-2) = some c := by
  unfold atI ixN
  rw [if_neg (by decide), if_pos (by simp; omega)]
  show (l ++ [c, d])[_]? = some c
  rw [show ((-2 : Int) + ((l ++ [c, d]).length : Int)).toNat = l.length by simp only [List.length_append, List.length_cons, List.length_nil]; omega]
  simp
end
local macro_rules | `(tactic| walk_at "v1") => `(tactic| ((with_reducible refine' m_upper ?hz ?_); (case hz => (first | assumption | omega))))

/-! own errors made and kept as values: their class, their fields -/
section
open PyProof.Rows
/-- a class of errors, its bases bm -/
structure EcK (K : PySem.W.Frag) (C : Addr) (bm : List Value) : Prop where
  ex : ∃ (B newId initId : String) (bmB : List Value), ExcBaseFacts B newId initId bmB ∧ (∀ T : String, bm.contains (.type T) = bmB.contains (.type T)) ∧
    ∃ nm q N bs sn sub ab col dd k0 k1 k2 k3 k5, K.lookup C = some (excClassObj nm q C N bs bm true sn sub ab col dd k0 k1 k2 k3 k5 newId)
  kp : PySem.W.keepIn K (.ref C) = true
section
variable {K : PySem.W.Frag} {C Z : Addr} {bm bz : List Value}
theorem EcK.cls (h : EcK K C bm) : ∃ cd, PySem.W.clsIn K C = some cd ∧ cd.mro = .ref C :: bm := by
  obtain ⟨_, _, _, _, _, _, nm, q, N, bs, sn, sub, ab, col, dd, k0, k1, k2, k3, k5, hC⟩ := h.ex
  unfold PySem.W.clsIn
  rw [hC]
  exact ⟨_, rfl, rfl⟩
theorem EcK.ty (h : EcK K C bm) : PySem.W.typeIn K (.ref C) = some (.type "type") := by
  obtain ⟨_, _, _, _, _, _, nm, q, N, bs, sn, sub, ab, col, dd, k0, k1, k2, k3, k5, hC⟩ := h.ex
  show (K.lookup C).map (fun o => o.cls) = _
  rw [hC]
  rfl
theorem EcK.sub (h : EcK K C bm) (v : Value) : PySem.W.subIn K (.ref C) v = some ((Value.ref C :: bm).contains v) := by
  obtain ⟨cd, e, em⟩ := h.cls
  show PySem.W.mroIn K C v = _
  unfold PySem.W.mroIn
  rw [e, Option.bind_some, em]
  rfl
theorem EcK.kit (h : EcK K C bm) (hz : EcK K Z bz) : PySem.W.kitOne K (.ref C) (.ref Z) = some ((Value.ref C :: bm).contains (.ref Z)) := by
  unfold PySem.W.kitOne
  by_cases e : C = Z
  · subst e
    simp
  · rw [if_neg (by simpa using e)]
    obtain ⟨cd, ez, _⟩ := hz.cls
    unfold PySem.W.kitCls
    simp only [ez, hz.ty, Option.isSome_some, Bool.true_and, beq_self_eq_true, if_true]
    exact h.sub _
theorem EcK.kitT (h : EcK K C bm) (T : String) (hm : PySem.W.kitMeta T = true) : PySem.W.kitOne K (.ref C) (.type T) = some ((Value.ref C :: bm).contains (.type T)) := by
  unfold PySem.W.kitOne
  rw [if_neg (by simp)]
  show (if PySem.W.kitMeta T = true then PySem.W.subIn K (.ref C) (.type T) else none) = _
  rw [if_pos hm]
  exact h.sub _
end
/-! further fields of an error over any built-in base -/
section
open Builtin Builtin.ObjectAttr PySem.W PySem.HandSPX
theorem exb_set_old {prog : Program} {w : World} {A : Around} {R : Result → Shared → Prop} {h0 : Heap} {g0 : Array GenState} {d0 : Drawn} {t0 : Nat} {o0 : OsState} {K : Frag} {fld : Str} {tk : Tok} {u : Value} {e C dx : Addr} {fv : Array Value} {cd : ClassData} {bm : List Value} {m0 : Str → Option Value} {nl : List Str}
    (KX : K.In h0) (he : h0.get? e = some { cls := .ref C, dict := some dx, data := .fields fv }) (hns : h0.Ns1 dx m0) (hw : Within m0 nl) (hz : nl.length ≤ 1000) (hcd : clsIn K C = some cd) (hm : cd.mro = .ref C :: bm) (pass : ∀ v : Value, refuseLoop v "__setattr__" bm = pure ()) (hob : bm.contains (.type "object") = true) (hh : cd.hasDict = true) (hno : findIn K (.ref C) fld = some none)
    (k : ∀ h1 t1, (∀ b o, b ≠ dx → h0.get? b = some o → h1.get? b = some o) → h1.Ns1 dx (fun y => if y = fld then some u else m0 y) → R (.ok (.ret .none)) ⟨h1, g0, d0, t1, o0⟩) :
    codeAny (model prog w) A (.call (.builtin "object.__setattr__") ⟨[.ref e, .str fld tk, u], []⟩) R ⟨h0, g0, d0, t0, o0⟩ := by
  obtain ⟨oD, _, _, hoD, _, _⟩ := hns.count hw
  have J : InstAt h0 e { cls := .ref C, dict := some dx, data := .fields fv } C (some oD) := ⟨he, rfl, rfl, hoD⟩
  have SO := PySem.F.store_object
  have hob2 : cd.mro.contains (.type "object") = true := by rw [hm, List.contains_cons, hob, Bool.or_true]
  have ne2 : cd.mro.isEmpty = false := by rw [hm]; rfl
  have subE : Looks (model prog w) h0 (isInstance (.ref e) (.type "object")) true := J.type.andThen (looks_mroIn KX (by unfold mroIn; rw [hcd, Option.bind_some, if_neg (by rw [ne2]; decide), hob2]))
  refine codeAny_call_builtin SO.slot.plain SO.entry (@check_slot (model prog w) _ _ ⟨h0, g0, d0, t0, o0⟩ "object.__setattr__" "object" "__setattr__" (.ref e) [.str fld tk, u] [] _ SO.kind SO.split subE (SO.args (.ref e) (.str fld tk) u) ?_)
  have mroE : Looks (model prog w) h0 (mroOf (.ref C)) cd.mro := (looks_clsIn KX hcd).andThen .now
  have takE : Looks (model prog w) h0 (storeTaker? none) none := .now
  have clsE : Looks (model prog w) h0 (classData C) cd := looks_clsIn KX hcd
  rw [osa_eq, refuse_eq]
  refine wpAny_bind (wpAny_bind (J.type.at (wpAny_bind (mroE.at ?_))))
  rw [hm, refuseLoop_ref, pass]
  refine wpAny_pure (wpAny_bind (J.type.at (wpAny_bind ((looks_findIn KX hno).at (wpAny_bind (takE.at ?_))))))
  show wpAny _ _ (storeInOwnDict (.ref e) (.ref C) (.str fld tk) fld u false) _ _ _
  obtain ⟨c1, c2, c3, c4, c5, c6, c7, c8, c9, c10, c11⟩ := cd
  dsimp only at hh
  subst hh
  unfold storeInOwnDict; unfold ownDictForStores
  repeat (first | with_reducible refine PySem.OEX.store_in_old hns hw hz ?_ | with_reducible refine wpAny_loadPart_at he ?_ | with_reducible refine clsE.at ?_ | wp_step)
  intro h1 t1 hn1 hs1
  exact k h1 t1 (fun b o hb ho => (hs1.2 b hb).trans ho) hn1
end
section
variable {X : Cx} {ps : List (Addr × Obj)} {σ : L2.St} {H : Hp} {s : Shared} {a C dx : Addr} {f : Str} {y : V} {u : Value} {fs : List (Str × V)} {Q : Unit → Shared → Prop} {E : Value → Shared → Prop} {A : Around}
theorem exb_put_old (T : OexB X.K C) (I : Inv X ps σ H s) (e : H a = some (exo a C (some dx))) (ed : H dx = some (exd dx fs)) (hl : fs.length ≤ 900) (hno : PySem.W.findIn X.K (.ref C) f = some none) (ry : RelV y u)
    (h : ∀ s', Inv X ps σ (upd H dx (exd dx ((f, y) :: fs))) s' → Q () s') : wpAny (model X.prog X.w) A (setAttr (.ref a) f u) Q E s := by
  obtain ⟨B, n1, n2, bm, FB, pass, hob, nm, q, N, bs, sn, sub, ab, col, dd, k0, k1, k2, k3, k5, hC⟩ := T.ex
  have hcl : PySem.W.clsIn X.K C = some { name := nm, bases := bs, mro := .ref C :: bm, ns := N, qualname := q, hasDict := true, slotNames := sn, subclasses := sub, abstract := ab, collection := col, hasDel := false } := by
    unfold PySem.W.clsIn; rw [hC]
  obtain ⟨tt, ho⟩ := exo_at I.hok e
  obtain ⟨mA, hns, rel⟩ := exd_at I.hok ed
  have hw := within_of rel
  obtain ⟨h0, g0, d0, t0, o0⟩ := s
  obtain ⟨oD, _, _, hoD, _, _⟩ := hns.count hw
  refine PySem.W.set_plain I.kIn (ox := { cls := .ref C, dict := some dx, data := .fields #[.ref tt, .none, .none, .none, .bool false, .none] }) (od := some oD) ⟨ho, rfl, rfl, hoD⟩ T.sa ?_
  refine exb_set_old I.kIn ho hns hw (by rw [List.length_map]; omega) hcl rfl pass hob rfl hno (fun h1 t1 kp hn => ?_)
  have there : ∃ o, h1.get? dx = some o := by
    obtain ⟨o, _, _, e', _⟩ := hn
    exact ⟨o, e'⟩
  exact h _ (I.write (t' := t1) (x := dx) (e := dx) (o := exd dx ((f, y) :: fs)) (by rw [ed]; exact True.intro) (.inl rfl) kp there (exd_ok hn (relO_put ry rel)))
end
def tOstC (K : PySem.W.Frag) (f : Str) (to te : TE) : TS := fun D σ H => te σ H fun y H1 => to σ H1 fun x H2 => ∃ a C : Addr, x = .ref a ∧ OexB K C ∧ PySem.W.findIn K (.ref C) f = some none ∧
  ((H2 a = some (exo a C none) ∧ ∀ dx, H2 dx = none → dx ≠ a → D.nx σ (upd (upd H2 dx (exd dx [(f, y)])) a (exo a C (some dx)))) ∨
    ∃ (dx : Addr) (fs : List (Str × V)), H2 a = some (exo a C (some dx)) ∧ H2 dx = some (exd dx fs) ∧ fs.length ≤ 900 ∧ D.nx σ (upd H2 dx (exd dx ((f, y) :: fs))))
theorem ps_gOstC {X : Cx} {K : PySem.W.Frag} {o e : Expr} {f : Str} {to te : TE} {p' pos : Pos} (hK : X.K = K) (ho : PE X o to) (he : PE X e te) (hs : swapsWith e (some (.Attribute o f p')) pos.line X.env = pure false := by rfl) : PS X (.Assign [.Attribute o f p'] e pos) (tOstC K f to te) := by
  subst hK
  constructor
  intro ps s0 σ H D I h
  refine plainObj_wpAny_Assign_Attribute (thn (he.run ps s0 σ H _ I h) fun v s1 hv => thn (ho.run ps s1 σ hv.choose_spec.choose _ hv.choose_spec.choose_spec.1 hv.choose_spec.choose_spec.2.2) fun u s2 hu => ?_) hs
  obtain ⟨x, H2, I2, r2, a, C, ex, T, hno, q⟩ := hu
  subst ex
  cases (show u = Value.ref a from r2)
  rcases q with ⟨ea, q⟩ | ⟨dx, fs, ea, ed, hl, q⟩
  · exact exb_put T I2 ea hno hv.choose_spec.choose_spec.2.1 fun dx s' n ne J => ⟨σ, _, J, q dx n ne⟩
  · exact exb_put_old T I2 ea ed hl hno hv.choose_spec.choose_spec.2.1 fun s' J => ⟨σ, _, J, q⟩
theorem r_ostC {K : PySem.W.Frag} {f : Str} {to te : TE} {σ : L2.St} {H : Hp} {nx bk ct : L2.St → Hp → Prop} {rt : VK} (q : te σ H fun y H1 => to σ H1 fun x H2 => ∃ a C : Addr, x = .ref a ∧ OexB K C ∧ PySem.W.findIn K (.ref C) f = some none ∧
  ((H2 a = some (exo a C none) ∧ ∀ dx, H2 dx = none → dx ≠ a → nx σ (upd (upd H2 dx (exd dx [(f, y)])) a (exo a C (some dx)))) ∨
    ∃ (dx : Addr) (fs : List (Str × V)), H2 a = some (exo a C (some dx)) ∧ H2 dx = some (exd dx fs) ∧ fs.length ≤ 900 ∧ nx σ (upd H2 dx (exd dx ((f, y) :: fs))))) : tOstC K f to te ⟨nx, rt, bk, ct⟩ σ H := q
/-- C(..), kept -/
@[irreducible] def gMkH (C : Addr) (sp : Sp) (vs : List V) (H1 : Hp) (Q : VK) : Prop := vs.length ≤ 1000 ∧ ∀ a, H1 a = none → sp (.ref a :: vs) (upd H1 a (exo a C none)) (fun v H2 => v = .non ∧ Q (.ref a) H2) (fun _ _ _ => False)
def tMkH (C : Addr) (sp : Sp) (ta : TA) : TE := fun σ H Q => ta σ H fun vs H1 => gMkH C sp vs H1 Q
theorem pe_mkH {X : Cx} {K : PySem.W.Frag} {CX : CXT} {x : Str} {C fI : Addr} {k : Nat} {fd : FuncData} {ns : List Str} {sp : Sp} {e : Expr} {es : List Expr} {ta : TA} {p pos : Pos} {bm : List Value} (hK : X.K = K) (T : EcK K C bm) (iC : PySem.W.findIn K (.ref C) "__init__" = some (some (.ref fI))) (tI : PySem.W.typeIn K (.ref fI) = some (.type "function"))
    (F1 : FnOk X.prog X.w K X.mg X.base CX k fI fd ns sp) (hr : Room (k + 1) X.A) (hb : Binds K fd ns []) (hx : Passes CX X (fun _ _ _ => False)) (hg : Gl X x) (hm : X.mg x = some (.ref C)) (ha : PA X (e :: es) ta)
    (hdb : (x == ("__debug__" : Str)) = false := by decide) (he : starEach (e :: es) X.env = (false, eval e X.env) :: starEach es X.env := by rfl) (hpl : (backTo pos (starEach es X.env)).any (·.1) = false := by rfl) : PE X (.Call (.Name x p) (e :: es) [] pos) (tMkH C sp ta) := by
  subst hK
  constructor
  intro ps s σ H Q I h
  obtain ⟨B, n1, n2, bmB, FB, hcon, nm, q, N, bs, sn, sub, ab, col, dd, k0, k1, k2, k3, k5, hC⟩ := T.ex
  refine wpAny_Call_Name_kw (ld_glob I hg hm (PySem.W.callWith_K (h₀ := X.base) I.ok.mod.kin T.kp (thn (ha.run pos ps s σ H _ I h) fun us s1 z => ?_) he hpl) hdb)
  obtain ⟨vs, H1, I1, r1, hq0⟩ := z
  unfold gMkH at hq0
  obtain ⟨hz, q1⟩ := hq0
  refine ⟨I1.kIn, ?_⟩
  show wpAny _ _ (call (.ref C) us) _ _ _
  obtain ⟨h0, g0, d0, t0, o0⟩ := s1
  have lz : h0.objs.size ≤ h0.objs.size + 1 := Nat.le_succ _
  have hn : H1 (h0.objs.size + 1) = none := I1.hok.fresh lz
  have kk : ∀ b o, h0.get? b = some o → ((h0.push (PySem.W.kdv_tup us)).push (PySem.HandSPX.excO C h0.objs.size)).get? b = some o := fun b o z => Heap.get?_push_of_some _ (Heap.get?_push_of_some _ z)
  have hget : ((h0.push (PySem.W.kdv_tup us)).push (PySem.HandSPX.excO C h0.objs.size)).get? (h0.objs.size + 1) = some (PySem.HandSPX.excO C h0.objs.size) := by heap_get
  have I2 : Inv X ps σ (upd H1 (h0.objs.size + 1) (exo (h0.objs.size + 1) C none)) ⟨(h0.push (PySem.W.kdv_tup us)).push (PySem.HandSPX.excO C h0.objs.size), g0, d0, t0, o0⟩ :=
    I1.laid (t' := t0) (a := h0.objs.size + 1) (o := exo (h0.objs.size + 1) C none) (h' := (h0.push (PySem.W.kdv_tup us)).push (PySem.HandSPX.excO C h0.objs.size)) kk lz (exo_ok hget)
  have hq := q1 (h0.objs.size + 1) hn
  have r2 : Vals (V.ref (h0.objs.size + 1) :: vs) (Value.ref (h0.objs.size + 1) :: us) := .cons rfl r1
  have hl : (Value.ref (h0.objs.size + 1) :: us).length = ns.length := by
    have z := r2.length
    rw [F1.len _ _ _ _ hq] at z
    exact z.symm
  have hus : us.length ≤ sizeLine := by rw [← Paired.length r1, sizeLine_eq]; omega
  have hb2 := hb ⟨(h0.push (PySem.W.kdv_tup us)).push (PySem.HandSPX.excO C h0.objs.size), g0, d0, t0, o0⟩ (Value.ref (h0.objs.size + 1) :: us) I2.kIn (by rw [List.append_nil]; exact hl)
  rw [List.append_nil] at hb2
  refine wpAny_call (PySem.HandSPX.call_own FB hcon (I1.kIn _ _ hC) (PySem.W.looks_findIn I1.kIn iC) (fun self => PySem.W.bind_fn I1.kIn self tI) hus
    (codeAny_mono (F1.run _ X.stack _ _ ⟨Value.ref (h0.objs.size + 1) :: us, []⟩ (Value.ref (h0.objs.size + 1) :: us) _ _ (fun _ _ _ => False) (hr.make C us []) (I2.env0.make C us []) hb2 r2 hq) fun r s' hq' => ?_))
  match r, hq' with
  | .error er, hq' => exact hx ps σ _ _ er s' I2 hq'
  | .ok (.ret u), hq' =>
    obtain ⟨v, H2, I3, rv, ev, q2⟩ := I2.after hq'
    subst ev
    exact ⟨rv, .ref (h0.objs.size + 1), H2, I3, rfl, q2⟩
  | .ok .next, hq' => exact hq'.elim
  | .ok .brk, hq' => exact hq'.elim
  | .ok .cont, hq' => exact hq'.elim
/-- C() of a class without an own __init__, kept -/
theorem pe_exc0 {X : Cx} {C : Addr} {bmB : List Value} {B newId initId : String} {x : Str} {p pos : Pos} (F : ExcBaseFacts B newId initId bmB) (q : PySem.W.excIn X.K C bmB newId = true) (kC : PySem.W.keepIn X.K (.ref C) = true) (hg : Gl X x) (gC : X.mg x = some (.ref C)) (hdb : (x == ("__debug__" : Str)) = false := by decide) :
    PE X (.Call (.Name x p) [] [] pos) (fun _ H Q => ∀ a, H a = none → Q (.ref a) (upd H a (ExO (.ref C) a))) := by
  constructor
  intro ps s σ H Q I h
  refine wpAny_Call_Name_kw (ld_glob I hg gC (PySem.W.callWith_K0 (first := []) I.kIn kC ?_) hdb)
  obtain ⟨bm, N, nm, qn, bs, hdct, sn, sub, ab, col, dd, k0, k1, k2, k3, k5, mN, hC, hN, hni, T⟩ := exc_obj I.kIn q
  refine wpAny_call_exc_subT F T hC hN hni (fun h' a hm => ?_) (Nat.zero_le _)
  have hn : H a = none := I.hok.gone hm.new
  obtain ⟨t, ht, _, _⟩ := hm.there
  exact ⟨.ref a, upd H a (ExO (.ref C) a), I.laidN hm.keeps hm.new hn (exO_ok ht ⟨rfl, rfl⟩ rfl rfl rfl (show 4 < 6 by decide)), rfl, h a hn⟩
/-- an error of the class C stands at a -/
def ErO (H : Hp) (a C : Addr) : Prop := (∃ dx fs, H a = some (exo a C (some dx)) ∧ H dx = some (exd dx fs)) ∨ H a = some (ExO (.ref C) a)
theorem er_inst {X : Cx} {ps : List (Addr × Obj)} {σ : L2.St} {H : Hp} {s : Shared} {a C : Addr} (I : Inv X ps σ H s) (h : ErO H a C) : ∃ oe od, PySem.W.InstAt s.heap a oe C od := by
  rcases h with ⟨dx, fs, ea, ed⟩ | ea
  · obtain ⟨t, ho⟩ := exo_at I.hok ea
    obtain ⟨mA, hns, _⟩ := exd_at I.hok ed
    obtain ⟨od, hod, _⟩ := lookIn_ns hns
    exact ⟨_, some od, ho, rfl, rfl, hod⟩
  · obtain ⟨⟨oe, vs, ho, hz, hd, _⟩, _, _⟩ := I.hok a _ ea
    refine ⟨oe, none, ho, hz.1, by unfold PySem.W.notCls; rw [hd], ?_⟩
    rw [hz.2]
    trivial
def rIsH (K : PySem.W.Frag) : List V → Hp → VK → Prop := fun zs H Q => ∃ (a C : Addr) (c : V) (cv : Value) (b : Bool), zs = [.ref a, c] ∧ ErO H a C ∧ ExcC K C ∧ ClsV c cv ∧ PySem.W.kitOne K (.ref C) cv = some b ∧ Q (.bl b) H
theorem call_isH {X : Cx} {K : PySem.W.Frag} (hK : X.K = K) : CallR X (.builtin "isinstance") (rIsH K) := by
  subst hK
  intro ps s0 σ0 H0 zs us Q0 I0 r0 h0
  obtain ⟨a, C, c, cv, b, rfl, hE, T, hcv, e, q⟩ := h0
  obtain ⟨u1, u2, rfl, r1, r2⟩ := r0.two
  cases (show u1 = Value.ref a from r1)
  cases hcv.eq r2
  obtain ⟨oe, od, J⟩ := er_inst I0 hE
  have hcl : (PySem.W.clsIn X.K C).isSome = true := by
    obtain ⟨cd, hc, _⟩ := PySem.W.any_some T.hd
    rw [hc]; rfl
  exact PySem.W.kia_one (PySem.W.kitx_exc hcl T.hg T.hk T.hs T.ha T.hn T.ht T.hm) I0.kIn J e (by intro z; cases z) fun tk => ⟨.bl b, H0, I0.kept (t' := tk) (fun _ _ z => z), rfl, q⟩
/-- e.f, e an error that is kept -/
def gFldH (K : PySem.W.Frag) (f : Str) (x : V) (H1 : Hp) (Q : VK) : Prop := ∃ (a C dx : Addr) (fs : List (Str × V)) (v : V), x = .ref a ∧ H1 a = some (exo a C (some dx)) ∧ H1 dx = some (exd dx fs) ∧ XfC K C ∧ PySem.W.findIn K (.ref C) f = some none ∧ fs.lookup f = some v ∧ Q v H1
def tFldH (K : PySem.W.Frag) (f : Str) (te : TE) : TE := fun σ H Q => te σ H fun x H1 => gFldH K f x H1 Q
theorem pe_fldH {X : Cx} {K : PySem.W.Frag} {e : Expr} {te : TE} {n : Str} {pos : Pos} (hK : X.K = K) (he : PE X e te) (hb : attributeBase e n X.env (eval e X.env) = eval e X.env := by rfl) : PE X (.Attribute e n pos) (tFldH K n te) := by
  subst hK
  constructor
  intro ps s σ H Q I h
  refine attr_of hb (thn (he.run ps s σ H _ I h) fun u s1 z => ?_)
  obtain ⟨x, H1, I1, rx, a, C, dx, fs, v, rfl, ea, ed, T, hno, l, q⟩ := z
  cases (show u = Value.ref a from rx)
  obtain ⟨t, ho⟩ := exo_at I1.hok ea
  obtain ⟨mA, hns, hr⟩ := exd_at I1.hok ed
  obtain ⟨od, hod, hl⟩ := lookIn_ns hns
  obtain ⟨w, hw, rw'⟩ := RelO.some_of (v := v) (o := mA n) (by rw [← l]; exact hr n)
  have J : PySem.W.InstAt s1.heap a { cls := .ref C, dict := some dx, data := .fields #[.ref t, .none, .none, .none, .bool false, .none] } C (some od) := ⟨ho, rfl, rfl, hod⟩
  exact PySem.HandSPX.exc_get I1.kIn J T.ga T.gg T.exC (PySem.W.findObj_own T.hdC hno rfl (by rw [hl, hw])) (handed_of rw') ⟨v, H1, I1.tok _, rw', q⟩
/-! as assertions -/
def Er (a C : Addr) (fs : List (Str × V)) : Asn := Exs fun dx : Addr => Pk [At a (exo a C (some dx)), At dx (exd dx fs)]
theorem er_open {a C : Addr} {fs : List (Str × V)} {l : List Asn} {H : Hp} (S : Sep (Er a C fs :: l) H) : ∃ dx, Sep (At a (exo a C (some dx)) :: At dx (exd dx fs) :: l) H := by
  obtain ⟨dx, S⟩ := S.ex
  exact ⟨dx, S.open'⟩
theorem er_close {a C dx : Addr} {fs : List (Str × V)} {l : List Asn} {H : Hp} (S : Sep (At a (exo a C (some dx)) :: At dx (exd dx fs) :: l) H) : Sep (Er a C fs :: l) H := Sep.ex' (x := dx) (Sep.close' (l := [_, _]) S)
theorem er_at {a C : Addr} {fs : List (Str × V)} {l : List Asn} {H : Hp} {i : Nat} (S : Sep l H) (h : l[i]? = some (Er a C fs)) : ∃ dx, H a = some (exo a C (some dx)) ∧ H dx = some (exd dx fs) := by
  obtain ⟨dx, S⟩ := er_open (S.pick h)
  exact ⟨dx, S.at (i := 0) rfl, S.at (i := 1) rfl⟩
section
variable {l : List Asn} {H : Hp} {K : PySem.W.Frag} {C : Addr} {f g h : Str} {x y z : V} {sp : Sp} {ta : TA} {te : TE} {σ : L2.St} {Q : VK} {bm : List Value}
theorem r_mkH (q : ta σ H fun vs H1 => gMkH C sp vs H1 Q) : tMkH C sp ta σ H Q := q
theorem r_fldH (q : te σ H fun x H1 => gFldH K f x H1 Q) : tFldH K f te σ H Q := q
theorem f_er {a : Addr} {fs : List (Str × V)} {i : Nat} {v : V} (S : Sep l H) (hi : l[i]? = some (Er a C fs)) (T : XfC K C) (hn : PySem.W.findIn K (.ref C) f = some none) (hl : fs.lookup f = some v) (q : Q v H) : gFldH K f (.ref a) H Q := by
  obtain ⟨dx, ea, ed⟩ := er_at S hi
  exact ⟨a, C, dx, fs, v, rfl, ea, ed, T, hn, hl, q⟩
theorem c_isH {a : Addr} {c : V} {cv : Value} {b : Bool} (hE : ErO H a C) (T : ExcC K C) (hc : ClsV c cv) (hk : PySem.W.kitOne K (.ref C) cv = some b) (q : Q (.bl b) H) : rIsH K [.ref a, c] H Q := ⟨a, C, c, cv, b, rfl, hE, T, hc, hk, q⟩
/-- one field -/
theorem mkH1 (S : Sep l H) (T : OexC K C) (hno : PySem.W.findIn K (.ref C) f = some none) (k : ∀ a H', Sep (Er a C [(f, x)] :: l) H' → Q (.ref a) H') : gMkH C (sp_exi K f) [x] H Q := by
  unfold gMkH
  refine ⟨by show 1 ≤ 1000; decide, fun a ha => ⟨a, C, x, rfl, T, hno, upd_same, fun dx hdx hne => ⟨rfl, k a _ (er_close (dx := dx) ?_)⟩⟩⟩
  have hd1 : H dx = none := by rw [upd_ne hne] at hdx; exact hdx
  have S1 := S.new (o := exd dx [(f, x)]) hd1
  have ha1 : upd H dx (exd dx [(f, x)]) a = none := by rw [upd_ne (Ne.symm hne)]; exact ha
  have S2 := S1.new (o := exo a C (some dx)) ha1
  have e : upd (upd (upd H a (exo a C none)) dx (exd dx [(f, x)])) a (exo a C (some dx)) = upd (upd H dx (exd dx [(f, x)])) a (exo a C (some dx)) := by
    funext b
    by_cases h1 : b = a
    · rw [h1, upd_same, upd_same]
    · rw [upd_ne h1, upd_ne h1]
      by_cases h2 : b = dx
      · rw [h2, upd_same, upd_same]
      · rw [upd_ne h2, upd_ne h2, upd_ne h1]
  rw [e]
  exact S2
theorem mkH1b (S : Sep l H) (T : OexB K C) (hno : PySem.W.findIn K (.ref C) f = some none) (k : ∀ a H', Sep (Er a C [(f, x)] :: l) H' → Q (.ref a) H') : gMkH C (sp_exb K f) [x] H Q := by
  unfold gMkH
  refine ⟨by show 1 ≤ 1000; decide, fun a ha => ⟨a, C, x, rfl, T, hno, upd_same, fun dx hdx hne => ⟨rfl, k a _ (er_close (dx := dx) ?_)⟩⟩⟩
  have hd1 : H dx = none := by rw [upd_ne hne] at hdx; exact hdx
  have S1 := S.new (o := exd dx [(f, x)]) hd1
  have ha1 : upd H dx (exd dx [(f, x)]) a = none := by rw [upd_ne (Ne.symm hne)]; exact ha
  have S2 := S1.new (o := exo a C (some dx)) ha1
  have e : upd (upd (upd H a (exo a C none)) dx (exd dx [(f, x)])) a (exo a C (some dx)) = upd (upd H dx (exd dx [(f, x)])) a (exo a C (some dx)) := by
    funext b
    by_cases h1 : b = a
    · rw [h1, upd_same, upd_same]
    · rw [upd_ne h1, upd_ne h1]
      by_cases h2 : b = dx
      · rw [h2, upd_same, upd_same]
      · rw [upd_ne h2, upd_ne h2, upd_ne h1]
  rw [e]
  exact S2
end
/-- two fields -/
def sp_exi2 (K : PySem.W.Frag) (f g : Str) : Sp := fun vs H Q _ => ∃ (a C : Addr) (x y : V), vs = [.ref a, x, y] ∧ OexC K C ∧ PySem.W.findIn K (.ref C) f = some none ∧ PySem.W.findIn K (.ref C) g = some none ∧ H a = some (exo a C none) ∧
  ∀ dx, H dx = none → dx ≠ a → Q .non (upd (upd (upd H dx (exd dx [(f, x)])) a (exo a C (some dx))) dx (exd dx [(g, y), (f, x)]))
/-- three fields -/
def sp_exb3 (K : PySem.W.Frag) (f g h : Str) : Sp := fun vs H Q _ => ∃ (a C : Addr) (x y z : V), vs = [.ref a, x, y, z] ∧ OexB K C ∧ PySem.W.findIn K (.ref C) f = some none ∧ PySem.W.findIn K (.ref C) g = some none ∧ PySem.W.findIn K (.ref C) h = some none ∧ H a = some (exo a C none) ∧
  ∀ dx, H dx = none → dx ≠ a → Q .non (upd (upd (upd (upd H dx (exd dx [(f, x)])) a (exo a C (some dx))) dx (exd dx [(g, y), (f, x)])) dx (exd dx [(h, z), (g, y), (f, x)]))
theorem sep_made {l : List Asn} {H : Hp} {a C dx : Addr} {fs : List (Str × V)} (S : Sep l H) (ha : H a = none) (hdx : H dx = none) (hne : dx ≠ a) : Sep (At a (exo a C (some dx)) :: At dx (exd dx fs) :: l) (upd (upd (upd H a (exo a C none)) dx (exd dx fs)) a (exo a C (some dx))) := by
  have S1 := S.new (o := exd dx fs) hdx
  have S2 := S1.new (o := exo a C (some dx)) (p := a) (by rw [upd_ne (Ne.symm hne)]; exact ha)
  have e : upd (upd (upd H a (exo a C none)) dx (exd dx fs)) a (exo a C (some dx)) = upd (upd H dx (exd dx fs)) a (exo a C (some dx)) := by
    funext b
    by_cases h1 : b = a
    · rw [h1, upd_same, upd_same]
    · rw [upd_ne h1, upd_ne h1]
      by_cases h2 : b = dx
      · rw [h2, upd_same, upd_same]
      · rw [upd_ne h2, upd_ne h2, upd_ne h1]
  rw [e]
  exact S2
theorem exd_nt {dx : Addr} {fs : List (Str × V)} : ∀ xs, exd dx fs ≠ .tup xs := fun _ => exd_tup
theorem mkH2 {l : List Asn} {H : Hp} {K : PySem.W.Frag} {C : Addr} {f g : Str} {x y : V} {Q : VK} (S : Sep l H) (T : OexC K C) (hf : PySem.W.findIn K (.ref C) f = some none) (hg : PySem.W.findIn K (.ref C) g = some none) (k : ∀ a H', Sep (Er a C [(g, y), (f, x)] :: l) H' → Q (.ref a) H') : gMkH C (sp_exi2 K f g) [x, y] H Q := by
  unfold gMkH
  refine ⟨by show 2 ≤ 1000; decide, fun a ha => ⟨a, C, x, y, rfl, T, hf, hg, upd_same, fun dx hdx hne => ⟨rfl, k a _ (er_close (dx := dx) ?_)⟩⟩⟩
  have hd1 : H dx = none := by rw [upd_ne hne] at hdx; exact hdx
  exact (sep_made (fs := [(f, x)]) S ha hd1 hne).upd (i := 1) rfl exd_nt
theorem mkH3b {l : List Asn} {H : Hp} {K : PySem.W.Frag} {C : Addr} {f g h : Str} {x y z : V} {Q : VK} (S : Sep l H) (T : OexB K C) (hf : PySem.W.findIn K (.ref C) f = some none) (hg : PySem.W.findIn K (.ref C) g = some none) (hh : PySem.W.findIn K (.ref C) h = some none) (k : ∀ a H', Sep (Er a C [(h, z), (g, y), (f, x)] :: l) H' → Q (.ref a) H') : gMkH C (sp_exb3 K f g h) [x, y, z] H Q := by
  unfold gMkH
  refine ⟨by show 3 ≤ 1000; decide, fun a ha => ⟨a, C, x, y, z, rfl, T, hf, hg, hh, upd_same, fun dx hdx hne => ⟨rfl, k a _ (er_close (dx := dx) ?_)⟩⟩⟩
  have hd1 : H dx = none := by rw [upd_ne hne] at hdx; exact hdx
  have S1 := (sep_made (C := C) (fs := [(f, x)]) S ha hd1 hne).upd (i := 1) (o' := exd dx [(g, y), (f, x)]) rfl exd_nt
  exact S1.upd (i := 1) rfl exd_nt
theorem gl_one {l : List Asn} {H : Hp} {K : PySem.W.Frag} {C : Addr} {f : Str} {x : V} {Q : VK} (S : Sep l H) (T : OexC K C) (X : XfC K C) (hno : PySem.W.findIn K (.ref C) f = some none) (k : ∀ H', Sep l H' → Q x H') : gMkH C (sp_exi K f) [x] H fun y H1 => gFldH K f y H1 Q :=
  mkH1 S T hno fun a H' S' => f_er S' (i := 0) rfl X hno (by simp [List.lookup]) (k H' S'.tail)
theorem gl_oneb {l : List Asn} {H : Hp} {K : PySem.W.Frag} {C : Addr} {f : Str} {x : V} {Q : VK} (S : Sep l H) (T : OexB K C) (X : XfC K C) (hno : PySem.W.findIn K (.ref C) f = some none) (k : ∀ H', Sep l H' → Q x H') : gMkH C (sp_exb K f) [x] H fun y H1 => gFldH K f y H1 Q :=
  mkH1b S T hno fun a H' S' => f_er S' (i := 0) rfl X hno (by simp [List.lookup]) (k H' S'.tail)
end
local macro_rules | `(tactic| walk_at "v1") => `(tactic| (first
  | with_reducible refine r_mkH ?_
  | with_reducible refine r_ostC ?_
  | with_reducible refine r_fldH ?_))

/-! comprehensions with two fors; lists of tuples of ints -/
section
open PyProof.Rows
/-- the inner for of a turn -/
def In2 (g1 : TG) (tt1 : TT) (te : TE) (vs1 : List Nat) (σ2 : L2.St) (D : Addr) (Nx : Hp → Prop) (J1 : L2.It) (H4 : Hp) : Prop := ∃ W1 : Nat → Nat → Hp → Prop, (∃ m, W1 0 m H4) ∧ ∀ j k H, W1 j k H →
  (J1.stop j H ∧ Nx H) ∨ (J1.go j H ∧ ∃ Nx1 : Hp → Prop, (∀ H', Nx1 H' → ∃ k', k' < k ∧ W1 (j + 1) k' H') ∧ ∀ x H', J1.yld j H x H' → g1 x (wipe σ2 vs1) H' fun σ3 H5 => wipe σ3 vs1 = wipe σ2 vs1 ∧ tt1 σ3 H5 fun b H6 =>
    if b = true then te σ3 H6 fun y H7 => ∃ acc, H7 D = some (.lst acc) ∧ acc.length < sizeLine ∧ Nx1 (upd H7 D (.lst (acc ++ [y]))) else Nx1 H6)
def Lc2B (J : L2.It) (g : TG) (tt : TT) (wi1 : TI) (g1 : TG) (tt1 : TT) (te : TE) (vs vs1 : List Nat) (σ : L2.St) (H1 : Hp) (Q : VK) : Prop := ∀ D, H1 D = none → ∃ W : Nat → Nat → Hp → Prop, (∃ m, W 0 m (upd H1 D (.lst []))) ∧ ∀ i m H, W i m H →
  (J.stop i H ∧ Q (.ref D) H) ∨ (J.go i H ∧ ∃ Nx : Hp → Prop, (∀ H', Nx H' → ∃ m', m' < m ∧ W (i + 1) m' H') ∧ ∀ x H', J.yld i H x H' → g x (wipe σ vs) H' fun σ2 H2 => wipe σ2 vs = wipe σ vs ∧ tt σ2 H2 fun b H3 =>
    if b = true then wi1 σ2 H3 (In2 g1 tt1 te vs1 σ2 D Nx) else Nx H3)
section
variable {σ σ2 : L2.St} {H : Hp} {K : PySem.W.Frag} {g g1 : TG} {tt tt1 : TT} {te tw : TE} {wi1 : TI} {tA : TA} {vs vs1 : List Nat} {Q : VK} {l : List Asn} {p D : Addr} {xs : List V} {Nx : Hp → Prop} {n : Int}
theorem r_lc2L (q : tw σ H fun x H1 => ∃ a, x = .ref a ∧ (∃ xs, SqL K H1 a xs) ∧ Lc2B (Itl K a) g tt wi1 g1 tt1 te vs vs1 σ H1 Q) : tLc2 (iList K tw) g tt wi1 g1 tt1 te vs vs1 σ H Q := q
abbrev L2T (g : TG) (tt : TT) (wi1 : TI) (g1 : TG) (tt1 : TT) (te : TE) (vs vs1 : List Nat) (σ : L2.St) (x : V) (D : Addr) (N : Hp → Prop) (H : Hp) : Prop := g x (wipe σ vs) H fun σ2 H2 => wipe σ2 vs = wipe σ vs ∧ tt σ2 H2 fun b H3 => if b = true then wi1 σ2 H3 (In2 g1 tt1 te vs1 σ2 D N) else N H3
theorem l2_turn {x : V} {N : Hp → Prop} (q : g x (wipe σ vs) H fun σ2 H2 => wipe σ2 vs = wipe σ vs ∧ tt σ2 H2 fun b H3 => if b = true then wi1 σ2 H3 (In2 g1 tt1 te vs1 σ2 D N) else N H3) : L2T g tt wi1 g1 tt1 te vs vs1 σ x D N H := q
/-- [.. for x in xs for ..] -/
theorem lc2L {e : Nat} (S : Sep l H) (hi : l[e]? = some (At p (.lst xs))) (Pv : Addr → Nat → Hp → Prop) (h0 : ∀ D H', Sep (At D (.lst []) :: l) H' → Pv D 0 H') (hl : ∀ D i H, Pv D i H → H p = some (.lst xs))
    (hs : ∀ D i x H, xs[i]? = some x → Pv D i H → L2T g tt wi1 g1 tt1 te vs vs1 σ x D (Pv D (i + 1)) H) (hd : ∀ D H, Pv D xs.length H → Q (.ref D) H) : ∃ a, V.ref p = .ref a ∧ (∃ xs, SqL K H a xs) ∧ Lc2B (Itl K a) g tt wi1 g1 tt1 te vs vs1 σ H Q := by
  refine ⟨p, rfl, ⟨xs, SqL.of (S.at hi)⟩, fun D hD => ⟨fun i m H => m = xs.length - i ∧ i ≤ xs.length ∧ Pv D i H, ⟨xs.length, by simp, Nat.zero_le _, h0 D _ (S.new hD)⟩, ?_⟩⟩
  rintro i m H ⟨rfl, hi, pv⟩
  have hq : SqL K H p xs := SqL.of (hl D i H pv)
  by_cases c : i < xs.length
  · have hx : xs[i]? = some xs[i] := List.getElem?_eq_getElem c
    refine .inr ⟨⟨xs, xs[i], hq, hx⟩, Pv D (i + 1), fun H' p' => ⟨xs.length - (i + 1), by omega, rfl, c, p'⟩, ?_⟩
    rintro v H' ⟨rfl, f⟩
    have e : v = xs[i] := by
      have := f xs hq
      rw [hx] at this
      exact (Option.some.inj this).symm
    rw [e]
    exact hs D i xs[i] _ hx pv
  · have e : i = xs.length := by omega
    subst e
    exact .inl ⟨⟨xs, hq, Nat.le_refl _⟩, hd D H pv⟩
theorem r_in2R {X : L2.It → Hp → Prop} (q : tA σ H fun vs H1 => ∃ j : Int, vs = [.int j] ∧ -(2 ^ 62) ≤ j ∧ j < 2 ^ 62 ∧ X (Itr 0 j.toNat) H1) : iRng1 tA σ H X := q
/-- .. for k in range(n)] -/
theorem in2R (b0 : -(2 ^ 62) ≤ n) (b1 : n < 2 ^ 62) (Pw : Nat → Hp → Prop) (h0 : Pw 0 H)
    (hs : ∀ (j : Nat) H, (j : Int) < n → Pw j H → g1 (.int (j : Int)) (wipe σ2 vs1) H fun σ3 H5 => wipe σ3 vs1 = wipe σ2 vs1 ∧ tt1 σ3 H5 fun b H6 => if b = true then te σ3 H6 fun y H7 => ∃ acc, H7 D = some (.lst acc) ∧ acc.length < sizeLine ∧ Pw (j + 1) (upd H7 D (.lst (acc ++ [y]))) else Pw (j + 1) H6)
    (hd : ∀ H, Pw n.toNat H → Nx H) : ∃ j : Int, [V.int n] = [.int j] ∧ -(2 ^ 62) ≤ j ∧ j < 2 ^ 62 ∧ In2 g1 tt1 te vs1 σ2 D Nx (Itr 0 j.toNat) H := by
  refine ⟨n, rfl, b0, b1, fun j m H => m = n.toNat - j ∧ j ≤ n.toNat ∧ Pw j H, ⟨n.toNat, by simp, Nat.zero_le _, h0⟩, ?_⟩
  rintro j m H ⟨rfl, hj, pv⟩
  by_cases c : j < n.toNat
  · refine .inr ⟨c, Pw (j + 1), fun H' p' => ⟨n.toNat - (j + 1), by omega, rfl, c, p'⟩, ?_⟩
    rintro v H' ⟨rfl, rfl⟩
    have e : (0 : Int) + (j : Int) = (j : Int) := Int.zero_add _
    rw [e]
    exact hs j _ (by omega) pv
  · have e : j = n.toNat := by omega
    subst e
    exact .inl ⟨Nat.le_refl _, hd H pv⟩
end
/-! tuples of ints -/
def tD (nss : List (List Int)) : List PyData := nss.map fun ns => PyData.tuple (ns.map PyData.int)
theorem isDs_ints {H : Hp} : ∀ {ns : List Int} {vs : List V}, IsDs H vs (ns.map PyData.int) → vs = ns.map V.int
  | [], _, .nil => rfl
  | n :: ns, _, .cons (.int _) h => by rw [List.map_cons, isDs_ints h]
theorem ints_isDs {H : Hp} : ∀ ns : List Int, IsDs H (ns.map V.int) (ns.map PyData.int)
  | [] => .nil
  | n :: ns => .cons (.int n) (ints_isDs ns)
theorem tD_get {H : Hp} : ∀ {nss : List (List Int)} {vs : List V} {i : Nat} {v : V}, IsDs H vs (tD nss) → vs[i]? = some v → ∃ ns q, nss[i]? = some ns ∧ v = .ref q ∧ H q = some (.tup (ns.map V.int))
  | [], _, i, v, .nil, h => by simp at h
  | ns :: nss, _, 0, v, .cons (.tup (q := q) hq hd) _, h => by
    cases h
    rw [isDs_ints hd] at hq
    exact ⟨ns, q, rfl, rfl, hq⟩
  | ns :: nss, _, i + 1, v, .cons _ hr, h => tD_get (nss := nss) (i := i) hr h
theorem tD_len {H : Hp} : ∀ {nss : List (List Int)} {vs : List V}, IsDs H vs (tD nss) → vs.length = nss.length
  | [], _, .nil => rfl
  | ns :: nss, _, .cons _ h => congrArg (· + 1) (tD_len h)
theorem tD_snoc {H : Hp} {ns : List Int} {q : Addr} : ∀ {nss : List (List Int)} {vs : List V}, IsDs H vs (tD nss) → H q = some (.tup (ns.map V.int)) → IsDs H (vs ++ [.ref q]) (tD (nss ++ [ns]))
  | [], _, .nil, hq => .cons (.tup hq (ints_isDs ns)) .nil
  | m :: nss, _, .cons h hr, hq => .cons h (tD_snoc (nss := nss) hr hq)
/-! [.. for i, x in enumerate(xs)] -/
section
variable {σ : L2.St} {H : Hp} {K : PySem.W.Frag} {g : TG} {tt : TT} {ta : TE} {tA : TA} {vs : List Nat} {Q : VK} {l : List Asn} {p : Addr} {xs : List V}
theorem r_lcE (q : tA σ H fun us H1 => ∃ a ys, us = [.ref a] ∧ SqL K H1 a ys ∧ LcB (Ite K a) g tt ta vs σ H1 Q) : tLc (iEnum K tA) g tt ta vs σ H Q := q
theorem lcE {e : Nat} (S : Sep l H) (hi : l[e]? = some (At p (.lst xs))) (Pv : Addr → Nat → Hp → Prop) (h0 : ∀ D H', Sep (At D (.lst []) :: l) H' → Pv D 0 H') (hl : ∀ D i H, Pv D i H → H p = some (.lst xs))
    (hs : ∀ D i x T H H', xs[i]? = some x → Pv D i H → H T = none → H' = upd H T (.tup [.int (i : Nat), x]) → LcT g tt ta vs σ (.ref T) D (Pv D (i + 1)) H') (hd : ∀ D H, Pv D xs.length H → Q (.ref D) H) :
    ∃ a ys, [V.ref p] = [.ref a] ∧ SqL K H a ys ∧ LcB (Ite K a) g tt ta vs σ H Q := by
  refine ⟨p, xs, rfl, SqL.of (S.at hi), fun D hD => ⟨fun i m H => m = xs.length - i ∧ i ≤ xs.length ∧ Pv D i H, ⟨xs.length, by simp, Nat.zero_le _, h0 D _ (S.new hD)⟩, ?_⟩⟩
  rintro i m H ⟨rfl, hi, q⟩
  have hq : SqL K H p xs := SqL.of (hl D i H q)
  by_cases hlt : i < xs.length
  · refine .inr ⟨⟨xs, xs[i], hq, by simp [hlt]⟩, Pv D (i + 1), fun H' p' => ⟨xs.length - (i + 1), by omega, rfl, hlt, p'⟩, fun x H' y => ?_⟩
    obtain ⟨T, z, rfl, hn, rfl, f⟩ := y
    exact hs D i z T H _ (f xs hq) q hn rfl
  · have e : i = xs.length := by omega
    subst e
    exact .inl ⟨⟨xs, hq, Nat.le_refl _⟩, hd D H q⟩
theorem r_lcET (q : tA σ H fun us H1 => ∃ a ys, us = [.ref a] ∧ SqT K H1 a ys ∧ LcB (IteT K a) g tt ta vs σ H1 Q) : tLc (iEnumT K tA) g tt ta vs σ H Q := q
theorem lcET {e : Nat} (S : Sep l H) (hi : l[e]? = some (Tp p xs)) (Pv : Addr → Nat → Hp → Prop) (h0 : ∀ D H', Sep (At D (.lst []) :: l) H' → Pv D 0 H') (hl : ∀ D i H, Pv D i H → H p = some (.tup xs))
    (hs : ∀ D i x T H H', xs[i]? = some x → Pv D i H → H T = none → H' = upd H T (.tup [.int (i : Nat), x]) → LcT g tt ta vs σ (.ref T) D (Pv D (i + 1)) H') (hd : ∀ D H, Pv D xs.length H → Q (.ref D) H) :
    ∃ a ys, [V.ref p] = [.ref a] ∧ SqT K H a ys ∧ LcB (IteT K a) g tt ta vs σ H Q := by
  refine ⟨p, xs, rfl, SqT.of (S.tp hi), fun D hD => ⟨fun i m H => m = xs.length - i ∧ i ≤ xs.length ∧ Pv D i H, ⟨xs.length, by simp, Nat.zero_le _, h0 D _ (S.new hD)⟩, ?_⟩⟩
  rintro i m H ⟨rfl, hi, q⟩
  have hq : SqT K H p xs := SqT.of (hl D i H q)
  by_cases hlt : i < xs.length
  · refine .inr ⟨⟨xs, xs[i], hq, by simp [hlt]⟩, Pv D (i + 1), fun H' p' => ⟨xs.length - (i + 1), by omega, rfl, hlt, p'⟩, fun x H' y => ?_⟩
    obtain ⟨T, z, rfl, hn, rfl, f⟩ := y
    exact hs D i z T H _ (f xs hq) q hn rfl
  · have e : i = xs.length := by omega
    subst e
    exact .inl ⟨⟨xs, hq, Nat.le_refl _⟩, hd D H q⟩
end
end
local macro_rules | `(tactic| walk_at "v1") => `(tactic| (first
  | with_reducible refine r_lc2L ?_
  | with_reducible refine r_in2R ?_
  | with_reducible refine r_lcE ?_
  | with_reducible refine r_lcET ?_))

/-! def f(a, *v, k=..), called with the rest by a star and k by its name; C(*xs, k=v), C in a slot -/
section
open PyProof.Rows
def skSp (n m : Nat) (sp : Sp) : List V → Sp := fun zs vs H Q E => ∃ ws rest, vs = ws ++ rest ∧ ws.length = n ∧ zs.length = m ∧ rest.length ≤ sizeLine ∧ ∀ p, H p = none → sp (ws ++ zs ++ [V.ref p]) (upd H p (.tup rest)) Q E
section
variable {CX : CXT} {P : Program} {w : World} {K : PySem.W.Frag} {mg : Str → Option Value} {base : Heap} {k : Nat} {f : Addr} {name qual : Str} {params : Arguments} {body : List Stmt} {scope : Scope} {dV kV doc pm cdv ct oc : Value} {an od : Option Addr}
  {osl : Array (Option Value)} {N ps ks : List Str} {sp : Sp}
theorem fn_sk {pv : Str} (lk : K.lookup f = some ⟨oc, od, .func (PySem.W.fnOf name qual params body scope dV kV doc pm an cdv ct), osl⟩) (hcd : PySem.W.codeIn K cdv qual = true) (S : FnScope N (ps ++ ks ++ [pv]) scope) (hCX : StX.CXUp CX)
    (bind : ∀ us rest ws : List Value, us.length = ps.length → ws.length = ks.length → bindArgs (PySem.W.fnOf name qual params body scope dV kV doc pm an cdv ct) ⟨us ++ rest, ks.zip ws⟩ = (newTuple rest >>= fun t => pure ((ps ++ ks).zip (us ++ ws) ++ [(pv, t)])))
    (walk : ∀ (A : Around) (outer : List Env) (s : Shared) (H : Hp) (vs : List V) (Q : VK) (E : XK), Room k (A.deeper (envOfC qual scope s.heap.objs.size f cdv)) → sp vs H Q E →
      ∃ t, PSs (cxOf CX P w K mg base N qual scope f cdv A outer s H E) body t ∧ t { nx := fun _ H' => Q .non H', rt := Q } (start N vs) H) : FnK P w K mg base CX (k + 1) f ks (skSp ps.length ks.length sp) := by
  rintro A outer s H us ws vs zs Q E hr e0 r rz ⟨qs, rest, rfl, hl, hlz, hz, hq⟩
  obtain ⟨u1, u2, rfl, r1, r2⟩ := StX.vals_split r
  have hn : H s.heap.objs.size = Option.none := e0.hok.fresh (Nat.le_refl _)
  have hl1 : u1.length = ps.length := by rw [← r1.length]; exact hl
  have hlw : ws.length = ks.length := by rw [← rz.length]; exact hlz
  have hl2 : u2.length ≤ sizeLine := by rw [← r2.length]; exact hz
  refine StX.run_bnd lk hcd S hr e0 (G := fun xs H2 => ∃ p, H p = Option.none ∧ xs = qs ++ zs ++ [V.ref p] ∧ H2 = upd H p (.tup rest)) (fun A' Ex Q' h => ?_) (fun s2 H2 xs g hr' => ?_)
  · rw [bind u1 u2 ws hl1 hlw]
    refine wpAny_bind (wpAny_newTuple (wpAny_pure ?_) hl2)
    have new : ObjOk P w (upd H s.heap.objs.size (.tup rest)) (s.heap.push ({ cls := .type "tuple", data := .seq u2.toArray } : Obj)) s.heap.objs.size (.tup rest) := ⟨hz, u2, r2, ⟨_, Heap.get?_push_size _ rfl, rfl, _, rfl⟩⟩
    have un : Un (frs outer) [] H (upd H s.heap.objs.size (.tup rest)) s.heap (s.heap.push ({ cls := .type "tuple", data := .seq u2.toArray } : Obj)) := StX.un_laid hn
    have z := h _ _ (qs ++ zs ++ [V.ref s.heap.objs.size]) (u1 ++ ws ++ [Value.ref s.heap.objs.size]) (StX.env0_laid e0 new) un rfl (fun e s' => hCX outer s H _ _ E e s' un (fun b o q => Heap.get?_push_of_some _ q) rfl) ((r1.append rz).append (.cons rfl .nil))
      (by rw [List.length_append, List.length_append, List.length_append, List.length_append, hl, hlz] <;> rfl) ⟨_, hn, rfl, rfl⟩
    rw [List.zip_append (by rw [List.length_append, List.length_append, hl1, hlw])] at z
    exact z
  · obtain ⟨d, hd, rfl, rfl⟩ := g
    exact walk A outer s2 _ _ Q E hr' (hq d hd)
end
theorem fun_sk {P : Program} {w : World} {K : PySem.W.Frag} {mg : Str → Option Value} {base : Heap} {x qual : Str} {st : Stmt} {f : Addr} {fd : FuncData} {N ps ks : List Str} {pv : Str} {k : Nat} {sp : Sp} (F : Fun K x qual st f fd) (S : FnScope N (ps ++ ks ++ [pv]) (defScope st))
    (bind : ∀ (kV doc pm : Value) (an : Option Addr) (cdv ct : Value) (us rest ws : List Value), us.length = ps.length → ws.length = ks.length → bindArgs (PySem.W.fnOf x qual (defArgs st) (defBody st) (defScope st) .none kV doc pm an cdv ct) ⟨us ++ rest, ks.zip ws⟩ = (newTuple rest >>= fun t => pure ((ps ++ ks).zip (us ++ ws) ++ [(pv, t)])))
    (walk : ∀ (cdv : Value) (A : Around) (outer : List Env) (s : Shared) (H : Hp) (vs : List V) (Q : VK) (E : XK), Room k (A.deeper (envOfC qual (defScope st) s.heap.objs.size f cdv)) → sp vs H Q E →
      ∃ t, PSs (cxOf CX0 P w K mg base N qual (defScope st) f cdv A outer s H E).nox (defBody st) t ∧ t { nx := fun _ H' => Q .non H', rt := Q } (start N vs) H) : FnK P w K mg base CX0 (k + 1) f ks (skSp ps.length ks.length sp) := by
  obtain ⟨oc, od, kV, doc, pm, an, cdv, ct, osl, rfl, lk, hcd⟩ := F.ex
  refine fn_sk lk hcd S StX.cxUp_none (bind kV doc pm an cdv ct) fun A outer s H vs Q E hr hsp => ?_
  obtain ⟨t, h, q⟩ := walk cdv A outer s H vs Q E hr hsp
  exact ⟨t, h.nox, q⟩
section
variable {M : Model} {A : Around} {E : Value → Shared → Prop} {s : Shared}
/-- one star alone, then names: the star's items are read last -/
theorem ev_sk {f : Value} {x : Sem Value} {pos : Pos} {kws : List (Option Str × Sem Value)} {Q : Args → Shared → Prop} (hall : kws.all (·.1.isSome) = true)
    (h : wpAny M A x (fun v s1 => wpAny M A (evalAll (kws.map (·.2))) (fun us s2 => PySem.W.StarOf M A E v (fun vs s3 => Q ⟨vs, (kws.filterMap (·.1)).zip us⟩ s3) s2) E s1) E s) :
    wpAny M A (evalArgs f true [(true, (do let v ← x; standAt pos; pure v))] kws) Q E s := by
  unfold evalArgs
  first
    | refine wpAny_bind (wpAny_bind (wpAny_mono h (fun v s₁ h₁ => wpAny_bind (wpAny_standAt (wpAny_pure ?_))) fun _ _ x => x))
    | refine wpAny_bind (wpAny_bind (wpAny_bind (wpAny_mono h (fun v s₁ h₁ => wpAny_bind (wpAny_standAt (wpAny_pure (wpAny_pure ?_)))) fun _ _ x => x)))
  refine wpAny_holding ?_
  dsimp only
  rw [if_pos hall]
  refine wpAny_bind (wpAny_mono h₁ (fun us s₂ h₂ => ?_) fun _ _ x => x)
  unfold PySem.W.StarOf at h₂
  refine wpAny_bind (wpAny_bind (wpAny_mono h₂ (fun b s₃ h₃ => ?_) fun _ _ x => x))
  obtain ⟨rfl, h₃⟩ := h₃
  try simp only [Bool.false_eq_true, if_false]
  refine wpAny_holding (wpAny_mono h₃ (fun vs s₄ h₄ => wpAny_pure h₄) fun _ _ x => x)
theorem cw_sk {f : Value} {first : List Value} {pos : Pos} {Q : Value → Shared → Prop} {P : Heap → Prop} {args : List (Bool × Sem Value)} {kws : List (Option Str × Sem Value)} (hst : args.any (·.1) = true)
    (hk : ∀ h, P h → ∃ k, (k = Keeper.frame ∨ k = Keeper.machine ∨ k = Keeper.boundFrame) ∧ PySem.W.Looks M h (keeperOf f) k)
    (h : wpAny M A (evalArgs f true args kws) (fun a s1 => P s1.heap ∧ wpAny M A (call f (first ++ a.pos) a.kw) Q E s1) E s) : wpAny M A (callWith pos f first args kws) Q E s := by
  unfold callWith
  refine wpAny_bind (wpAny_holding (wpAny_mono h (fun a s₁ h₁ => wpAny_bind (wpAny_standAt ?_)) fun _ _ x => x))
  obtain ⟨hP, hc⟩ := h₁
  obtain ⟨k, hk', L⟩ := hk _ hP
  simp only [hst, Bool.true_or]
  refine wpAny_bind (L.here ?_)
  have fin : ∀ {t : Sem Value}, wpAny M A t Q E s₁ → wpAny M A (t >>= fun r => holding [r] point >>= fun _ => pure r) Q E s₁ :=
    fun ht => wpAny_bind (wpAny_mono ht (fun r s₂ hr => wpAny_bind (wpAny_holding (wpAny_point (wpAny_pure hr)))) fun _ _ x => x)
  rcases hk' with rfl | rfl | rfl
  · exact fin (by unfold callMarked; exact Calls.wpAny_keep hc)
  · exact fin (wpAny_operating hc)
  · exact fin (wpAny_operating hc)
end
/-- C(*xs, k=v, ..), C in the i-th slot -/
def tMakeSK (i : Nat) (C : Addr) (K : PySem.W.Frag) (sp : List V → Sp) (E : XK) (te : TE) (tk : TA) : TE := fun σ H Q => σ[i]? = some (some (.ref C)) ∧ te σ H fun y H1 => tk σ H1 fun zs H2 => ∃ p xs, y = V.ref p ∧ (SqT K H2 p xs ∨ SqL K H2 p xs) ∧ ∀ x dx, H2 x = none → H2 dx = none → dx ≠ x → sp zs (V.ref x :: xs) (upd (upd H2 dx (.own x)) x (.ins C dx [])) (fun v H3 => v = .non ∧ Q (.ref x) H3) E
theorem run_makeSK {X : Cx} {CX : CXT} {k : Nat} {f C : Addr} {ks : List Str} {sp : List V → Sp} {E : XK} {ps : List (Addr × Obj)} {σ : L2.St} {H : Hp} {s : Shared} {Q : VK} {us ws : List Value} {vs zs : List V} (M : Mk X.K C f) (F : FnK X.prog X.w X.K X.mg X.base CX k f ks sp) (hr : Room (k + 1) X.A) (hx : Passes CX X E)
    (I : Inv X ps σ H s) (rv : Vals vs us) (rz : Vals zs ws) (h : ∀ x dx, H x = none → H dx = none → dx ≠ x → sp zs (V.ref x :: vs) (upd (upd H dx (.own x)) x (.ins C dx [])) (fun v H2 => v = .non ∧ Q (.ref x) H2) E) : wpAny (model X.prog X.w) X.A (call (.ref C) us (ks.zip ws)) (EP X ps σ Q) X.xe s := by
  have q0 := h (s.heap.objs.size + 1) s.heap.objs.size (I.hok.fresh (Nat.le_succ _)) (I.hok.fresh (Nat.le_refl _)) (Nat.ne_of_lt (Nat.lt_succ_self _))
  have J := Inv.made (C := C) I
  have rx : Vals (V.ref (s.heap.objs.size + 1) :: vs) (Value.ref (s.heap.objs.size + 1) :: us) := .cons rfl rv
  refine wpAny_call (make_map (f := f) I.kIn M.makes M.init (beq_iff_eq.mp M.fn) (codeAny_mono (F _ X.stack _ _ (Value.ref (s.heap.objs.size + 1) :: us) ws _ _ _ E (hr.make C us (ks.zip ws)) (J.env0.make C us (ks.zip ws)) rx rz q0) fun r s' hr' => ?_))
  match r, hr' with
  | .error e, hr' => exact hx ps σ _ _ e s' J hr'
  | .ok (.ret u), hr' =>
    obtain ⟨v, H', J2, rv, ev, qv⟩ := J.after hr'
    subst ev
    exact ⟨rv, ⟨V.ref (s.heap.objs.size + 1), H', J2, rfl, qv⟩⟩
  | .ok .next, hr' => exact hr'.elim
  | .ok .brk, hr' => exact hr'.elim
  | .ok .cont, hr' => exact hr'.elim
theorem pe_makeSK {X : Cx} {CX : CXT} {k i : Nat} {f C : Addr} {ks : List Str} {sp : List V → Sp} {E : XK} {x : Str} {e : Expr} {p p2 pos : Pos} {kws : List Keyword} {te : TE} {tk : TA} {K : PySem.W.Frag} (hK : X.K = K) (M : Mk X.K C f) (F : FnK X.prog X.w X.K X.mg X.base CX k f ks sp) (hr : Room (k + 1) X.A) (hN : X.N[i]? = some x) (hv : Vis X.env.scope x) (hx : Passes CX X E) (he : PE X e te) (hkw : PK X kws tk)
    (hall : (backToKw pos (keywordEach kws X.env)).all (·.1.isSome) = true := by rfl) (hks : (backToKw pos (keywordEach kws X.env)).filterMap (·.1) = ks := by rfl) (hdb : (x == ("__debug__" : Str)) = false := by decide) (hcd : (x == ("__classdict__" : Str)) = false := by decide)
    (hst : backTo pos (starEach [.Starred e p2] X.env) = [(true, (do let v ← eval e X.env; standAt pos; pure v))] := by rfl) : PE X (.Call (.Name x p) [.Starred e p2] kws pos) (tMakeSK i C K sp E te tk) := by
  subst hK
  refine ⟨fun pins s σ H Q I h => ?_⟩
  obtain ⟨hs, ht⟩ := h
  refine wpAny_Call_Name_kw (thn ((pe_var (pos := p) hN hv hdb hcd).run pins s σ H (fun v H1 => v = .ref C ∧ H1 = H) I ⟨.ref C, hs, rfl, rfl⟩) fun u s1 ⟨v, H1, I1, r1, q1⟩ => ?_)
  obtain ⟨rfl, rfl⟩ := q1
  cases r1
  refine cw_sk (P := X.K.In) (by rw [hst]; rfl) (PySem.W.keeps_K M.kp) ?_
  rw [hst]
  refine ev_sk hall (thn (he.run pins s1 σ _ _ I1 ht) fun v s2 ⟨y, H2, I2, ry, q2⟩ => ?_)
  refine thn (hkw.run pos pins s2 σ H2 _ I2 q2) fun ws s3 ⟨zs, H3, I3, rz, p3, xs, ey, hxs, q3⟩ => ?_
  subst ey
  obtain rfl : v = Value.ref p3 := ry
  refine StX.star_any I3 hxs fun us s4 I4 rv => ⟨I4.kIn, ?_⟩
  rw [hks]
  exact run_makeSK M F hr hx I4 rv rz q3
section
variable {σ : L2.St} {H : Hp} {K : PySem.W.Frag} {Q : VK} {i : Nat} {C : Addr} {sp : List V → Sp} {E : XK} {te : TE} {tk : TA}
theorem r_makeSK (hC : σ[i]? = some (some (.ref C))) (q : te σ H fun y H1 => tk σ H1 fun zs H2 => ∃ p xs, y = V.ref p ∧ (SqT K H2 p xs ∨ SqL K H2 p xs) ∧ ∀ x dx, H2 x = none → H2 dx = none → dx ≠ x → sp zs (V.ref x :: xs) (upd (upd H2 dx (.own x)) x (.ins C dx [])) (fun v H3 => v = .non ∧ Q (.ref x) H3) E) : tMakeSK i C K sp E te tk σ H Q := ⟨hC, q⟩
theorem sk_call {l : List Asn} {ws zs rest : List V} {sp : Sp} {n m : Nat} (S : Sep l H) (hn : ws.length = n) (hm : zs.length = m) (hz : rest.length ≤ 1000) (k : ∀ t H', Sep (Tp t rest :: l) H' → sp (ws ++ zs ++ [V.ref t]) H' Q E) : skSp n m sp zs (ws ++ rest) H Q E :=
  ⟨ws, rest, rfl, hn, hm, Nat.le_trans hz (by decide), fun t ht => k t _ (S.newT ht)⟩
end
end
local macro_rules | `(tactic| walk_at "v1") => `(tactic| with_reducible refine r_makeSK (by rfl) ?_)

/-! {t: v for t in xs}: a dict comprehension whose keys are tuples -/
section
open PyProof.Rows
/-- a tuple put as a key -/
def gTPut (D : Addr) (y z : V) (H : Hp) (N : Hp → Prop) : Prop := ∃ kvs k b, y = .ref b ∧ H b = some (.tup (k.map kV)) ∧ H D = some (.dT kvs) ∧ kvs.length < sizeLine ∧ N (upd H D (.dT (putK kvs k z)))
def DtT (g : TG) (tk tv : TE) (vs : List Nat) (σ : L2.St) (x : V) (D : Addr) (N : Hp → Prop) (H : Hp) : Prop := g x (wipe σ vs) H fun σ2 H2 => wipe σ2 vs = wipe σ vs ∧ tk σ2 H2 fun y H4 => tv σ2 H4 fun z H5 => gTPut D y z H5 N
def DtB (J : L2.It) (g : TG) (tk tv : TE) (vs : List Nat) : L2.St → Hp → VK → Prop := fun σ H1 Q => ∀ D, H1 D = none → ∃ W : Nat → Nat → Hp → Prop, (∃ m, W 0 m (upd H1 D (.dT []))) ∧ ∀ i m H, W i m H →
  (J.stop i H ∧ Q (.ref D) H) ∨ (J.go i H ∧ ∃ Nx : Hp → Prop, (∀ H', Nx H' → ∃ m', m' < m ∧ W (i + 1) m' H') ∧ ∀ x H', J.yld i H x H' → DtT g tk tv vs σ x D Nx H')
def tDct (wi : TI) (g : TG) (tk tv : TE) (vs : List Nat) : TE := fun σ H Q => wi σ H fun J H1 => DtB J g tk tv vs σ H1 Q
theorem run_tput {X : Cx} {pins : List (Addr × Obj)} {σ : L2.St} {H : Hp} {s : Shared} {E : Value → Shared → Prop} {D : Addr} {y z : V} {u r : Value} {N : Hp → Prop} {Q : Unit → Shared → Prop} (hu : X.A.units + 1 < cLine) (I : Inv X pins σ H s) (g : gTPut D y z H N) (ry : RelV y u) (rz : RelV z r)
    (h : ∀ s' H', Inv X pins σ H' s' → N H' → Q () s') : wpAny (model X.prog X.w) X.A (dictSet D u r) Q E s := by
  obtain ⟨kvs, k, b, rfl, hb, hD, hz, nx⟩ := g
  obtain rfl : u = Value.ref b := ry
  obtain ⟨z1, hd, xs, rel, dd⟩ := dt_of I.hok hD
  have hx : xs.length ≤ sizeLine := by rw [← Paired.length rel]; exact z1
  have hl := length_putK kvs k z
  refine wpAny_dictSet_heap (hsz := hx) (Nat.lt_of_succ_lt hu) (key_of I.hok hb) dd fun h' dd' hs => ?_
  obtain ⟨q, es, ep, hq, h2, h3, h4, _, h5⟩ := dd'
  refine h _ (upd H D (.dT (putK kvs k z))) (d_write I (by rw [hD]; exact True.intro) hs ⟨q, hq⟩ ⟨by omega, hd, _, (rel.put k hb rz).keeps fun c ys ec => ?_, q, es, ep, hq, h2, h3, h4, h5⟩) nx
  rw [upd_ne (ne_of ec hD fun z => nomatch z)]
  exact ec
/-- the turns, in the context of the block -/
theorem dct_loop {Z : Cx} {kx vx tg iter : Expr} {scope : Scope} {pos : Pos} {fp : List Addr} {it D : Addr} {tn : Nat → Heap → Prop} {J : L2.It} {vs : List Nat} {σ : L2.St} {g : TG} {tk tv : TE} {W : Nat → Nat → Hp → Prop} {Qd : Hp → Prop} {R : Result → Shared → Prop} (hc : Z.calm = true) (hxe : Z.xe = fun _ _ => False) (hu : Z.A.units + 1 < cLine)
    (T : Turn Z.prog Z.w Z.K tg J fp it tn) (pg : PG Z tg g) (pk : PE Z kx tk) (pv : PE Z vx tv)
    (hf : ∀ (τ : L2.St) (H : Hp) (s : Shared), Inv Z [] τ H s → (∀ b ∈ fp, H b = none) → ∀ b ∈ fp, FpOk Z [] H b)
    (turn : ∀ i m H, W i m H → (J.stop i H ∧ Qd H) ∨ (J.go i H ∧ ∃ Nx : Hp → Prop, (∀ H', Nx H' → ∃ m', m' < m ∧ W (i + 1) m' H') ∧ ∀ x H', J.yld i H x H' → DtT g tk tv vs σ x D Nx H'))
    (out : ∀ H s, Inv Z [] (wipe σ vs) H s → Qd H → R (.ok .next) s) {m0 : Nat} {H0 : Hp} {s0 : Shared} (I0 : Inv Z [] (wipe σ vs) H0 s0) (t0 : tn 0 s0.heap) (n0 : ∀ b ∈ fp, H0 b = none) (w0 : W 0 m0 H0) :
    codeAny (model Z.prog Z.w) Z.A (.compLoop (.DictComp kx vx [⟨tg, iter, [], 0⟩] scope pos) 0 (.ref it) (.ref D) Z.env) R s0 := by
  refine compLoop_anyD (fun m s => ∃ i H, Inv Z [] (wipe σ vs) H s ∧ tn i s.heap ∧ (∀ b ∈ fp, H b = none) ∧ W i m H) ?_ m0 ⟨0, H0, I0, t0, n0, w0⟩
  rintro m s ⟨i, H, Iv, ti, nf, wi⟩
  have fo := hf _ _ _ Iv nf
  rcases turn i m H wi with ⟨hs, hq⟩ | ⟨hg, Nx, less, each⟩
  · refine thnF (T.done Z rfl rfl rfl hc i [] s _ H (fun _ _ => False) Iv fo ti hs) fun r s1 z => ?_
    obtain ⟨rfl, I1⟩ := z
    exact out H s1 I1 hq
  · refine thnF (T.item Z rfl rfl rfl hc i [] s _ H (fun _ _ => False) Iv fo ti hg) fun r s1 z => ?_
    obtain ⟨u, rfl, z⟩ := z
    refine thnF z fun _ s2 z => ?_
    obtain ⟨x, H2, I2, rx, yx, t2, n2⟩ := z
    have held := I2.pinned (hf _ _ _ I2 n2) (T.obj _ _ t2)
    have e1 := pg.run _ s2 _ H2 x u _ held rx (each x H2 yx)
    rw [hxe] at e1
    refine thnF e1 fun _ s3 z => ?_
    obtain ⟨σ3, H3, I3, wσ, q3⟩ := z
    refine wpAny_pure ?_
    show wpAny _ _ _ _ _ _
    have e2 := pk.run _ s3 σ3 H3 _ I3 q3
    rw [hxe] at e2
    refine thnF e2 fun ku s4 z => ?_
    obtain ⟨y, H4, I4, ry, q4⟩ := z
    have e3 := pv.run _ s4 σ3 H4 _ I4 q4
    rw [hxe] at e3
    refine thnF e3 fun vu s5 z => ?_
    obtain ⟨v, H5, I5, rv, q5⟩ := z
    refine run_tput hu I5 q5 ry rv fun s6 H6 I6 nx => ?_
    obtain ⟨m', lt, w6⟩ := less H6 nx
    have stay : ∀ b ∈ fp, ∀ o, s2.heap.get? b = some o → s6.heap.get? b = some o ∧ H6 b = none := fun b hb o e => by
      have p := I6.pin (b, o) (List.mem_append_right _ (List.mem_append_right _ (mem_pinsAt hb e)))
      exact ⟨p.1, p.2.1⟩
    refine ⟨m', lt, i + 1, H6, ?_, T.keep _ _ _ t2 fun b hb o e => (stay b hb o e).1, fun b hb => ?_, w6⟩
    · refine (I6.unpinned (pins := [])).weak ?_ fun j v e => ?_
      · rw [← wσ, wipe_length]
      · rw [← wσ] at e
        exact (wipe_some e).1
    · obtain ⟨o, e, _⟩ := T.obj _ _ t2 b hb
      exact (stay b hb o e).2
theorem pe_dct {X : Cx} {kx vx tg iter : Expr} {scope : Scope} {own : List (Str × Nat)} {pos : Pos} {wi : TI} {g : TG} {tk tv : TE} (hc : X.calm = true) (hN : X.N.Nodup) (hu : X.A.units + 1 < cLine) (hi : PI X tg iter wi) (ok : BlkOk X.N X.env.scope scope own)
    (hg : ∀ (s : Shared) (H : Hp) (C : Addr) (cl : List (Str × Addr)) (fp : List Addr), PG (X.blk s H scope (compEnvC scope cl C X.env) fp) tg g)
    (hk : ∀ (s : Shared) (H : Hp) (C : Addr) (cl : List (Str × Addr)) (fp : List Addr), PE (X.blk s H scope (compEnvC scope cl C X.env) fp) kx tk)
    (he : ∀ (s : Shared) (H : Hp) (C : Addr) (cl : List (Str × Addr)) (fp : List Addr), PE (X.blk s H scope (compEnvC scope cl C X.env) fp) vx tv) (hs : ∀ x, foldedSetIterable iter X.env x = pure x := by intro _; rfl) :
    PE X (.DictComp kx vx [⟨tg, iter, [], 0⟩] scope pos) (tDct wi g tk tv (own.map (·.2))) := by
  refine ⟨fun pins s σ H Q I h => ?_⟩
  rw [arm_eval_DictComp]
  have caught : ∀ y ∈ scope.names, y.2 = .free → ∃ c, X.env.cells.lookup y.1 = some c := fun y hy e => by
    rcases ok.free y hy e with k | k
    · exact I.ok.has _ (.inl k)
    · exact I.ok.has _ (.inr k)
  refine wpAny_comprehension_free rfl hs (closure_ok caught) ok.kind (fun y hy e => by rw [ok.uniq y hy, e]) (thn (hi.run pins s σ H _ I h) fun xv s1 z => thn z fun itv s2 z => ?_)
  obtain ⟨it, fp, tn, J, H2, rfl, I2, T, t2, f2, q⟩ := z
  refine wpAny_newObj_type (newEnv_comp ?_)
  have hDn : H2 s2.heap.objs.size = none := I2.hok.fresh (Nat.le_refl _)
  obtain ⟨W, ⟨m0, w0⟩, turn⟩ := q s2.heap.objs.size hDn
  generalize hs3 : ({ s2 with heap := s2.heap.push { cls := .type "dict", data := .dict #[] } } : Shared) = s3
  have h3 : s3.heap = s2.heap.push { cls := .type "dict", data := .dict #[] } := by rw [← hs3]
  have I3 : Inv X pins σ (upd H2 s2.heap.objs.size (.dT [])) s3 := by
    rw [← hs3]
    exact I2.laid (t' := s2.toks) (fun b o e => Heap.get?_push_of_some _ e) (Nat.le_refl _) (dt_empty s2.heap I2.big)
  have old : ∀ b ∈ fp, b < s2.heap.objs.size := fun b hb => let ⟨o, e, _⟩ := T.obj _ _ t2 b hb; Heap.lt_size e
  have f3 : ∀ b ∈ fp, FpOk X pins (upd H2 s2.heap.objs.size (.dT [])) b ∧ b < s3.heap.objs.size := fun b hb =>
    ⟨⟨by rw [upd_ne (Nat.ne_of_lt (old b hb))]; exact (f2 b hb).1, (f2 b hb).2⟩, by rw [h3, Heap.size_push]; exact Nat.lt_succ_of_lt (old b hb)⟩
  have I4 := block_start I3 ok hN f3
  have t4 : tn 0 (pushCells (s3.heap.push { cls := .type "dict", data := .dict #[] }) scope.names) :=
    T.keep _ _ _ t2 fun b _ o e => pushCells_keeps _ _ _ _ (Heap.get?_push_of_some _ (by rw [h3]; exact Heap.get?_push_of_some _ e))
  refine (fun L => codeAny_compStart_dict L (T.self X.A 0 _ _ _ t4 L)) ?_
  · refine dct_loop (Z := X.blk s3 (upd H2 s2.heap.objs.size (.dT [])) scope (compEnvC scope (cellsFrom (s3.heap.objs.size + 1) scope.names (cloFrom X.env.cells scope.names [])) s3.heap.objs.size X.env) fp) hc rfl hu T (hg _ _ _ _ _) (hk _ _ _ _ _) (he _ _ _ _ _) ?_ turn ?_ I4 t4 (fun b hb => (f3 b hb).1.1) w0
    · exact fun τ H' s' I' hn b hb => ⟨hn b hb, (I'.ok.exf b hb).1, I'.ok.exfs b hb, .inl hb, fun x c e => (I'.ok.exf b hb).2 x c e, fun p hp => absurd (show p ∈ ([] : List (Addr × Obj)) ++ [] from hp) (by simp)⟩
    · intro H' s' I' hq
      have I7 : Inv X pins σ H' s' := I3.call' (ch := fp) I'.os I'.base I'.hok I'.bare fun b hb => ⟨(f3 b hb).1.2.2.2.1, (f3 b hb).1.2.1, (f3 b hb).1.2.2.2.2.1, (f3 b hb).1.2.2.2.2.2⟩
      have nC : H' s3.heap.objs.size = none := I'.free
      obtain ⟨m, hn, _⟩ := I'.loc
      refine ⟨m, hn, fun h'' sb => ?_⟩
      obtain ⟨f0, f1, f4, f5, f6, f7⟩ := I3.fpOk (Nat.le_refl _) nC
      exact ⟨.ref s2.heap.objs.size, H', I7.turned (t' := s'.toks) (fun b o hb e => (sb.2 b hb).trans e) f0 f1 f5 f6 f7, rfl, hq⟩
section
variable {σ : L2.St} {H : Hp} {K : PySem.W.Frag} {g : TG} {te tk tv : TE} {vs : List Nat} {Q : VK} {l : List Asn} {p D b : Addr} {xs : List V} {v : V}
theorem r_dct (q : te σ H fun x H1 => ∃ a, x = .ref a ∧ (∃ xs, SqL K H1 a xs) ∧ DtB (Itl K a) g tk tv vs σ H1 Q) : tDct (iList K te) g tk tv vs σ H Q := q
theorem dt_turn {x : V} {N : Hp → Prop} (q : g x (wipe σ vs) H fun σ2 H2 => wipe σ2 vs = wipe σ vs ∧ tk σ2 H2 fun y H4 => tv σ2 H4 fun z H5 => gTPut D y z H5 N) : DtT g tk tv vs σ x D N H := q
/-- {t: v for t in xs} -/
theorem dctL {e : Nat} (S : Sep l H) (hi : l[e]? = some (At p (.lst xs))) (Pv : Addr → Nat → Hp → Prop) (h0 : ∀ D H', Sep (At D (.dT []) :: l) H' → Pv D 0 H') (hl : ∀ D i H, Pv D i H → H p = some (.lst xs))
    (hs : ∀ D i x H, xs[i]? = some x → Pv D i H → DtT g tk tv vs σ x D (Pv D (i + 1)) H) (hd : ∀ D H, Pv D xs.length H → Q (.ref D) H) : ∃ a, V.ref p = .ref a ∧ (∃ xs, SqL K H a xs) ∧ DtB (Itl K a) g tk tv vs σ H Q := by
  refine ⟨p, rfl, ⟨xs, SqL.of (S.at hi)⟩, fun D hD => ⟨fun i m H => m = xs.length - i ∧ i ≤ xs.length ∧ Pv D i H, ⟨xs.length, by simp, Nat.zero_le _, h0 D _ (S.new hD)⟩, ?_⟩⟩
  rintro i m H ⟨rfl, hi, pv⟩
  have hq : SqL K H p xs := SqL.of (hl D i H pv)
  by_cases c : i < xs.length
  · refine .inr ⟨⟨xs, xs[i], hq, by simp [c]⟩, Pv D (i + 1), fun H' p' => ⟨xs.length - (i + 1), by omega, rfl, c, p'⟩, ?_⟩
    rintro v H' ⟨rfl, f⟩
    exact hs D i v _ (f xs hq) pv
  · have e : i = xs.length := by omega
    subst e
    exact .inl ⟨⟨xs, hq, Nat.le_refl _⟩, hd D H pv⟩
theorem ks_ints (ns : List Int) : (ns.map (Sum.inl : Int → Key)).map kV = ns.map V.int := by rw [List.map_map]; rfl
theorem tp_put {e : Nat} {ns : List Int} {kvs : List (List Key × V)} {N : Hp → Prop} (S : Sep l H) (hi : l[e]? = some (At D (.dT kvs))) (hb : H b = some (.tup (ns.map V.int))) (hz : kvs.length < 100000) (k : ∀ kvs' H', kvs'.length ≤ kvs.length + 1 → Sep (l.set e (At D (.dT kvs'))) H' → N H') : gTPut D (.ref b) v H N :=
  ⟨kvs, ns.map Sum.inl, b, rfl, by rw [ks_ints]; exact hb, S.at hi, Nat.lt_of_lt_of_le hz (by decide), k _ _ (length_putK kvs _ v) (S.upd hi fun _ z => nomatch z)⟩
end
end
local macro_rules | `(tactic| walk_at "v1") => `(tactic| with_reducible refine r_dct ?_)

/-! defs with defaults, called with all their values -/
section
open PyProof.Rows
structure FunV (K : PySem.W.Frag) (x qual : Str) (st : Stmt) (f : Addr) (fd : FuncData) : Prop where
  ex : ∃ oc od dV kV doc pm an cdv ct osl, fd = PySem.W.fnOf x qual (defArgs st) (defBody st) (defScope st) dV kV doc pm an cdv ct ∧ K.lookup f = some { cls := oc, dict := od, data := Data.func fd, slots := osl } ∧ PySem.W.codeIn K cdv qual = true
theorem FunV.ok {P : Program} {w : World} {K : PySem.W.Frag} {mg : Str → Option Value} {base : Heap} {x qual : Str} {st : Stmt} {f : Addr} {fd : FuncData} {N ps : List Str} {k : Nat} {sp : Sp} (F : FunV K x qual st f fd) (S : FnScope N ps (defScope st)) (len : ∀ vs H Q E, sp vs H Q E → vs.length = ps.length)
    (body : ∀ (cdv : Value) (A : Around) (outer : List Env) (s : Shared) (H : Hp) (vs : List V) (Q : VK) (E : XK), Room k (A.deeper (envOfC qual (defScope st) s.heap.objs.size f cdv)) → sp vs H Q E →
      ∃ t, PSs (cxOf CX0 P w K mg base N qual (defScope st) f cdv A outer s H E).nox (defBody st) t ∧ t { nx := fun _ H' => Q .non H', rt := Q } (start N vs) H) : FnOk P w K mg base CX0 (k + 1) f fd ps sp := by
  obtain ⟨oc, od, dV, kV, doc, pm, an, cdv, ct, osl, rfl, lk, hcd⟩ := F.ex
  refine fn_of lk hcd S len fun A outer s H vs Q E hr hsp => ?_
  obtain ⟨t, h, q⟩ := body cdv A outer s H vs Q E hr hsp
  exact ⟨t, h.nox, q⟩
theorem binds_all {K : PySem.W.Frag} {fd : FuncData} {ps : List Str} {T : Addr} {o : Obj} {its : Array Value} {n : Nat} (lT : K.lookup T = some o) (oT : o.data = .seq its n) (hd : fd.defaults = .ref T) (h : ∀ us : List Value, us.length = ps.length → ∃ k, bindArgs fd ⟨us, []⟩ = seqItems? fd.defaults >>= k ∧ k (some its) = pure (ps.zip us)) : Binds K fd ps [] := by
  intro s us hK hl
  rw [List.append_nil] at hl ⊢
  obtain ⟨k, h1, h2⟩ := h us hl
  exact BindsTo.of_defaults hd (hK _ _ lT) oT h1 h2

end
/-! xs.index(x), dict(pairs) -/
def gLIndex (K : PySem.W.Frag) : V → List V → Hp → VK → Prop := rIndex K
theorem mt_gLIndex {X : Cx} {K : PySem.W.Frag} (hK : X.K = K) : MtR X "list.index" (gLIndex K) := by rw [← hK]; exact mt_index
theorem m_lindex {l : List Asn} {H : Hp} {K : PySem.W.Frag} {Q : VK} {e j : Nat} {p : Addr} {ks : List Str} {w : Str} (S : Sep l H) (hi : l[e]? = some (At p (.lst (ks.map V.str)))) (hj : ks[j]? = some w) (hn : ks.Nodup) (q : Q (.int (j : Nat)) H) : gLIndex K (.ref p) [.str w] H Q := by
  refine ⟨p, ks.map V.str, .str w, j, .str w, rfl, rfl, SqL.of (S.at hi), rfl, ?_, ?_, ?_, fun m z' hm hz => ?_, q⟩
  · rw [List.all_eq_true]
    intro v hv
    obtain ⟨x, _, rfl⟩ := List.mem_map.1 hv
    rfl
  · rw [List.getElem?_map, hj]; rfl
  · show (w == w) = true
    exact beq_self_eq_true w
  · rw [List.getElem?_map] at hz
    obtain ⟨x, hx, rfl⟩ := Option.map_eq_some_iff.1 hz
    show (x == w) = false
    rw [beq_eq_false_iff_ne]
    intro e0
    subst e0
    obtain ⟨h1, h2⟩ := List.getElem?_eq_some_iff.1 hx
    obtain ⟨h3, h4⟩ := List.getElem?_eq_some_iff.1 hj
    have h5 := List.pairwise_iff_getElem.1 hn m j h1 h3 hm
    exact h5 (h2.trans h4.symm)
theorem merge_mp : ∀ (ps acc : List (Str × Int)), (keys (acc ++ ps)).Nodup → mergeK (mp acc) (mp ps) = mp (acc ++ ps)
  | [], acc, _ => by rw [List.append_nil]; rfl
  | x :: ps, acc, hn => by
    have e : acc ++ x :: ps = (acc ++ [x]) ++ ps := by rw [List.append_assoc]; rfl
    rw [e] at hn ⊢
    rw [← merge_mp ps (acc ++ [x]) hn]
    show mergeK (putK (mp acc) (Sum.inr x.1) (V.int x.2)) (mp ps) = _
    congr 1
    unfold putK
    rw [if_neg]
    · show _ = List.map _ (acc ++ [x])
      rw [List.map_append]
      rfl
    · rw [List.any_eq_true]
      rintro ⟨y, hy, hd⟩
      obtain ⟨z, hz, rfl⟩ := List.mem_map.1 hy
      have hzx : z.1 = x.1 := Sum.inr.inj (of_decide_eq_true hd)
      unfold keys at hn
      rw [List.map_append, List.map_append] at hn
      have h1 := (List.nodup_append.1 (List.nodup_append.1 hn).1).2.2 z.1 (List.mem_map_of_mem hz) x.1 (List.mem_singleton.2 rfl)
      exact h1 hzx
def gDictP (K : PySem.W.Frag) : List V → Hp → VK → Prop := fun xs H Q => ∃ (a : Addr) (ps : List Addr) (kvs : List (Key × V)), xs = [V.ref a] ∧ SqL K H a (ps.map V.ref) ∧ Paired (fun p kv => SqT K H p [kV kv.1, kv.2]) ps kvs ∧ ∀ p, H p = none → Q (V.ref p) (upd H p (.dK (mergeK [] kvs)))
theorem call_gDictP {X : Cx} {K : PySem.W.Frag} (hK : X.K = K) (hc : X.calm = true) : CallR X (.type "dict") (gDictP K) := by rw [← hK]; exact call_dictP hc
theorem isds_pair {K : PySem.W.Frag} {H : Hp} : ∀ {vs : List V} {ps : List (Str × Int)}, IsDs H vs (pds ps) → ∃ qs : List Addr, vs = qs.map V.ref ∧ Paired (fun p (kv : Key × V) => SqT K H p [kV kv.1, kv.2]) qs (mp ps)
  | [], [], _ => ⟨[], rfl, .nil⟩
  | _ :: _, [], h => nomatch h
  | [], _ :: _, h => nomatch h
  | v :: vs, x :: ps, h => by
    cases h with
    | cons h r =>
      obtain ⟨q, rfl, hq⟩ := isD_pair h
      obtain ⟨qs, rfl, hp⟩ := isds_pair r
      exact ⟨q :: qs, rfl, .cons (SqT.of hq) hp⟩
theorem dps {l : List Asn} {H : Hp} {K : PySem.W.Frag} {Q : VK} {e : Nat} {a : Addr} {ps : List (Str × Int)} (S : Sep l H) (hi : l[e]? = some (LD a (pds ps))) (hn : (keys ps).Nodup) (k : ∀ p H', Sep (At p (.dK (mp ps)) :: l) H' → Q (.ref p) H') : gDictP K [.ref a] H Q := by
  obtain ⟨vs, h, S1⟩ := ld_open (S.pick hi)
  obtain ⟨qs, rfl, hp⟩ := isds_pair (K := K) h
  refine ⟨a, qs, mp ps, rfl, SqL.of (S1.at (i := 0) rfl), hp, fun p hp => ?_⟩
  rw [show mergeK [] (mp ps) = mp ps from merge_mp ps [] hn]
  exact k p _ (S.new hp)
/-! ### lists of ints compared -/
theorem dp_ints {K : PySem.W.Frag} {H : Hp} : ∀ ns : List Int, DpAll K H (ns.map V.int) (ns.map PyData.int)
  | [] => .nil
  | n :: ns => .cons (.int n) (dp_ints ns)
theorem flat_ints {ns : List Int} : ∀ d ∈ ns.map PyData.int, d.canLay0 = true ∧ d.depth = 0 := by
  intro d hd
  obtain ⟨w, hw, rfl⟩ := List.mem_map.1 hd
  exact ⟨by rw [PyData.canLay0], by rw [PyData.depth]⟩
theorem eqv_ints : ∀ bs cs : List Int, PyData.eqvAll (bs.map PyData.int) (cs.map PyData.int) = decide (bs = cs)
  | [], [] => by simp [PyData.eqvAll]
  | [], _ :: _ => by simp [PyData.eqvAll]
  | _ :: _, [] => by simp [PyData.eqvAll]
  | a :: ws, b :: us => by
    show PyData.eqvAll (.int a :: ws.map PyData.int) (.int b :: us.map PyData.int) = _
    rw [PyData.eqvAll, eqv_ints ws us, PyData.eqv]
    by_cases h : a = b
    · by_cases h2 : ws = us <;> simp [h, h2]
    · simp [h]
section
variable {l : List Asn} {H : Hp} {p p2 : Addr} {K : PySem.W.Frag} {Q : VK} {e e2 : Nat} {bs cs : List Int}
theorem eq_ints (S : Sep l H) (hi : l[e]? = some (At p (.lst (bs.map V.int)))) (hj : l[e2]? = some (At p2 (.lst (cs.map V.int)))) (q : Q (.bl (decide (bs = cs))) H) : gEq K (.ref p) (.ref p2) H Q :=
  .inr ⟨.list (bs.map .int), .list (cs.map .int), .lst (SqL.of (S.at hi)) (dp_ints bs), .lst (SqL.of (S.at hj)) (dp_ints cs), shaped_lst flat_ints, shaped_lst flat_ints, by rw [PyData.eqv, eqv_ints]; exact q⟩
theorem ne_ints (S : Sep l H) (hi : l[e]? = some (At p (.lst (bs.map V.int)))) (hj : l[e2]? = some (At p2 (.lst (cs.map V.int)))) (q : Q (.bl (!decide (bs = cs))) H) : gNe K (.ref p) (.ref p2) H Q :=
  .inr ⟨.list (bs.map .int), .list (cs.map .int), .lst (SqL.of (S.at hi)) (dp_ints bs), .lst (SqL.of (S.at hj)) (dp_ints cs), shaped_lst flat_ints, shaped_lst flat_ints, by rw [PyData.eqv, eqv_ints]; exact q⟩
end

/-! the plainest steps are tried first -/
local macro_rules | `(tactic| walk_at "fast") => `(tactic| (first
  | with_reducible refine r_var rfl ?_
  | with_reducible refine r_c ?_
  | with_reducible refine r_cons ?_
  | with_reducible refine r_nil ?_
  | with_reducible refine r_op ?_
  | with_reducible refine r_seq ?_
  | with_reducible refine r_asg ?_
  | with_reducible refine g_name ?_
  | with_reducible refine r_call ?_
  | with_reducible refine r_test ?_
  | with_reducible refine r_CB ?_
  | with_reducible refine r_tup ?_
  | with_reducible refine r_list ?_
  | with_reducible refine r_ret ?_
  | with_reducible refine r_next ?_
  | with_reducible refine r_drop ?_
  | with_reducible refine r_ifS ?_
  | with_reducible refine r_ifE ?_
  | with_reducible refine r_B ?_
  | with_reducible refine r_and ?_
  | with_reducible refine r_or ?_
  | with_reducible refine r_not ?_
  | with_reducible refine r_un ?_
  | with_reducible refine g_cons ?_
  | with_reducible refine g_nil ?_
  | with_reducible refine g_sub ?_
  | with_reducible refine r_sl ?_
  | with_reducible refine r_part ?_
  | with_reducible refine r_nopart ?_
  | with_reducible refine o_add ?_
  | with_reducible refine o_sub ?_))
local macro_rules | `(tactic| walk_at "v") => `(tactic| (repeat (first | walk_at "fast" | walk_at "v1")))

/-! list(zip(a, b)), a and b lists or tuples: the tuples given out are kept, so the zip makes a new one each time -/
section
open PyProof.Rows
section
variable {prog : Program} {w : World} {A : Around} {E : Value → Shared → Prop} {s : Shared} {z TI TO i1 i2 : Addr} {fp1 fp2 : List Addr} {n1 n2 i : Nat} {P1 P2 : Nat → Value → Prop} {St1 St2 : Nat → Heap → Prop}
theorem lz_item {T : Addr} {f : Bool} {oT : Obj} {Q : Value → Shared → Prop} (Z : ZipSep2 z TI TO i1 i2 fp1 fp2) (D1 : Draws prog w A i1 fp1 n1 P1 St1) (D2 : Draws prog w A i2 fp2 n2 P2 St2)
    (hz : IsZipHeld s.heap z TI TO T f) (hT : s.heap.get? T = some oT) (hTI : IsTupOf2 s.heap TI (.ref i1) (.ref i2)) (st1 : St1 i s.heap) (st2 : St2 i s.heap) (l1 : i < n1) (l2 : i < n2)
    (hQ : ∀ x y g tk, P1 i x → P2 i y → IsZipHeld g z TI TO T true → St1 (i + 1) g → St2 (i + 1) g → IsTupOf2 g s.heap.objs.size x y → g.objs.size = s.heap.objs.size + 1 → (∀ c o, c ≠ z → c ≠ i1 → c ≠ i2 → s.heap.get? c = some o → g.get? c = some o) → Q (.ref s.heap.objs.size) { s with heap := g, toks := tk }) :
    wpAny (model prog w) A (Builtin.«zip.__next__» ⟨[.ref z], []⟩) (fun r s' => ∃ v, r = .done (.ret v) ∧ Q v s') E s := by
  obtain ⟨h0, gg, dd, t0, oo⟩ := s
  show wpAny _ _ (field (.ref z) 2 >>= _) _ _ _; refine wpAny_bind (wpAny_field hz rfl (x := .bool false) rfl ?_)
  show wpAny _ _ (field (.ref z) 3 >>= _) _ _ _; refine wpAny_bind (wpAny_field hz rfl (x := .ref TI) rfl ?_)
  refine wpAny_bind (wpAny_seqItems hTI rfl ?_); show wpAny _ _ (Builtin.SmallTypes.ownedTupleIsFree (.ref z) >>= _) _ _ _
  refine wpAny_bind (wpAny_tupleHeld_zip hz hT fun a hza hsa => ?_)
  replace hsa : Heap.SameBut z h0 a := hsa
  simp only [Bool.false_eq_true, if_false]; refine wpAny_bind ?_; rw [← Array.forIn_toList]; simp only [List.forIn_cons, List.forIn_nil]
  refine wpAny_bind (wpAny_bind (wpAny_holding ?_)); show wpAny _ _ (Builtin.SmallTypes.nextOf (.ref i1) >>= _) _ _ ⟨a, gg, dd, t0, oo⟩
  refine wpAny_bind (D1.item i _ _ _ l1 (D1.over st1 hsa Z.zf1) fun x b tb hx sb hb => wpAny_pure ?_)
  replace hb : Heap.SameBut i1 a b := hb
  refine wpAny_pure ?_
  refine wpAny_bind (wpAny_bind (wpAny_holding ?_)); show wpAny _ _ (Builtin.SmallTypes.nextOf (.ref i2) >>= _) _ _ ⟨b, gg, dd, tb, oo⟩
  refine wpAny_bind (D2.item i _ _ _ l2 (D2.over (D2.over st2 hsa Z.zf2) hb Z.sep1_2) fun y c tc hy sc hc => wpAny_pure ?_)
  replace hc : Heap.SameBut i2 b c := hc
  refine wpAny_pure (wpAny_pure ?_); show wpAny _ _ (newTuple [x, y] >>= _) _ _ _
  refine wpAny_bind (wpAny_newTuple ?_)
  have hn : c.objs.size = h0.objs.size := by rw [hc.1, hb.1, hsa.1]
  have hzc : IsZipHeld c z TI TO T true := hc.extBut _ _ Z.zi2 (hb.extBut _ _ Z.zi1 hza)
  have hk : ∀ q o, q ≠ z → q ≠ i1 → q ≠ i2 → h0.get? q = some o → c.get? q = some o := fun q o q1 q2 q3 e => hc.extBut _ _ q3 (hb.extBut _ _ q2 (hsa.extBut _ _ q1 e))
  have s1 : St1 (i + 1) c := D1.over sb hc Z.sep2_1
  refine wpAny_pure ⟨_, rfl, ?_⟩
  show Q (.ref c.objs.size) ⟨c.push { cls := .type "tuple", data := .seq #[x, y] }, gg, dd, tc, oo⟩
  have hp : IsTupOf2 (c.push { cls := .type "tuple", data := .seq #[x, y] }) c.objs.size x y := Heap.get?_push_size _ rfl
  have hp1 : (c.push { cls := .type "tuple", data := .seq #[x, y] }).objs.size = c.objs.size + 1 := Heap.size_push ..
  rw [hn] at hp hp1 ⊢
  exact hQ x y _ tc hx hy (Heap.get?_push_of_some _ hzc) (D1.frame _ _ _ s1 fun q _ o e => Heap.get?_push_of_some _ e) (D2.frame _ _ _ sc fun q _ o e => Heap.get?_push_of_some _ e) hp hp1 fun q o q1 q2 q3 e => Heap.get?_push_of_some _ (hk q o q1 q2 q3 e)
theorem lz_end {T : Addr} {f : Bool} {oT : Obj} {Q : Fin → Shared → Prop} (Z : ZipSep2 z TI TO i1 i2 fp1 fp2) (D1 : Draws prog w A i1 fp1 n1 P1 St1) (D2 : Draws prog w A i2 fp2 n2 P2 St2)
    (hz : IsZipHeld s.heap z TI TO T f) (hT : s.heap.get? T = some oT) (hTI : IsTupOf2 s.heap TI (.ref i1) (.ref i2)) (st1 : St1 n1 s.heap)
    (hE : ∀ g tk e, (∀ c o, c ≠ z → c ≠ i1 → c ≠ i2 → s.heap.get? c = some o → g.get? c = some o) → (∃ o, g.get? e = some o ∧ o.cls = .type "StopIteration") → E (.ref e) { s with heap := g, toks := tk }) :
    wpAny (model prog w) A (Builtin.«zip.__next__» ⟨[.ref z], []⟩) Q E s := by
  obtain ⟨h0, gg, dd, t0, oo⟩ := s
  show wpAny _ _ (field (.ref z) 2 >>= _) _ _ _; refine wpAny_bind (wpAny_field hz rfl (x := .bool false) rfl ?_)
  show wpAny _ _ (field (.ref z) 3 >>= _) _ _ _; refine wpAny_bind (wpAny_field hz rfl (x := .ref TI) rfl ?_)
  refine wpAny_bind (wpAny_seqItems hTI rfl ?_); show wpAny _ _ (Builtin.SmallTypes.ownedTupleIsFree (.ref z) >>= _) _ _ _
  refine wpAny_bind (wpAny_tupleHeld_zip hz hT fun a hza hsa => ?_)
  replace hsa : Heap.SameBut z h0 a := hsa
  simp only [Bool.false_eq_true, if_false]; refine wpAny_bind ?_; rw [← Array.forIn_toList]; simp only [List.forIn_cons, List.forIn_nil]
  refine wpAny_bind (wpAny_bind (wpAny_holding ?_)); show wpAny _ _ (Builtin.SmallTypes.nextOf (.ref i1) >>= _) _ _ ⟨a, gg, dd, t0, oo⟩
  refine wpAny_bind (D1.done ⟨a, gg, dd, t0, oo⟩ _ _ (D1.over st1 hsa Z.zf1) fun q e hq he => ?_)
  replace hq : Heap.ExtBut i1 a q := hq
  exact hE q t0 e (fun c o c1 c2 _ x => hq _ _ c2 (hsa.extBut _ _ c1 x)) he
end
section
variable {prog : Program} {w : World} {A : Around} {E : Value → Shared → Prop} {s : Shared} {z TI TO i1 i2 S : Addr} {fp1 fp2 : List Addr} {n1 n2 i : Nat} {P1 P2 : Nat → Value → Prop} {St1 St2 : Nat → Heap → Prop}
/-- a zip whose tuples, if one was given out, are kept -/
def LzS (h : Heap) (z TI TO S i1 i2 : Addr) : Prop := (IsZip h z TI TO .none ∧ ∃ a b, IsTupOf2 h TO a b) ∨ ∃ T f o, IsZipHeld h z TI TO T f ∧ h.get? T = some o ∧ T ≠ z ∧ T ≠ S ∧ T ≠ i1 ∧ T ≠ i2
theorem LzS.keep {h g : Heap} (x : LzS h z TI TO S i1 i2) (hz : z ≠ S) (hO : TO ≠ S) (k : ∀ b o, b ≠ S → h.get? b = some o → g.get? b = some o) : LzS g z TI TO S i1 i2 := by
  rcases x with ⟨a, p, q, b⟩ | ⟨T, f, o, a, b, c1, c2, c3, c4⟩
  · exact .inl ⟨k _ _ hz a, p, q, k _ _ hO b⟩
  · exact .inr ⟨T, f, o, k _ _ hz a, k _ _ c2 b, c1, c2, c3, c4⟩
theorem lz_next {Q : Option Value → Shared → Prop} (Z : ZipSep2 z TI TO i1 i2 fp1 fp2) (D1 : Draws prog w A.in1 i1 fp1 n1 P1 St1) (D2 : Draws prog w A.in1 i2 fp2 n2 P2 St2) (x : LzS s.heap z TI TO S i1 i2) (hS : S < s.heap.objs.size) (h1 : i1 < s.heap.objs.size) (h2 : i2 < s.heap.objs.size)
    (hTI : IsTupOf2 s.heap TI (.ref i1) (.ref i2)) (st1 : St1 i s.heap) (st2 : St2 i s.heap) (l1 : i < n1) (l2 : i < n2)
    (hQ : ∀ x y g tk, P1 i x → P2 i y → LzS g z TI TO S i1 i2 → St1 (i + 1) g → St2 (i + 1) g → IsTupOf2 g s.heap.objs.size x y → g.objs.size = s.heap.objs.size + 1 → (∀ c o, c ≠ z → c ≠ TO → c ≠ i1 → c ≠ i2 → s.heap.get? c = some o → g.get? c = some o) → Q (some (.ref s.heap.objs.size)) { s with heap := g, toks := tk }) :
    wpAny (model prog w) A (pyNext (.ref z)) Q E s := by
  rcases x with ⟨hz, a, b, hTO⟩ | ⟨T, f, o, hz, hT, c1, c2, c3, c4⟩
  · have hzl : z < s.heap.objs.size := Heap.lt_size hz
    refine wpAny_pyNext_zipD2_item Z D1 D2 hz hTI hTO st1 st2 l1 l2 fun x y g tk e1 e2 e3 e4 e5 e6 e7 e8 e9 => hQ x y g tk e1 e2 (.inr ⟨s.heap.objs.size, false, _, e3, e7, Nat.ne_of_gt hzl, Nat.ne_of_gt hS, Nat.ne_of_gt h1, Nat.ne_of_gt h2⟩) e5 e6 e7 e8 e9
  · have hy : s.TypeIs (.ref z) "zip" := ⟨_, hz, rfl⟩
    unfold pyNext
    refine wpAny_bind (wpAny_attempt (wpAny_callSpecial?_slot (name := Str.ofString "__next__") hy F.slot_zip_next (wpAny_call_entry F.slot_zip_next hy F.entry_zip_next (lz_item Z D1 D2 hz hT hTI st1 st2 l1 l2 fun x y g tk e1 e2 e3 e4 e5 e6 e7 e8 => wpAny_pure ?_) (F.args_zip_next_1 _))))
    exact hQ x y g tk e1 e2 (.inr ⟨T, true, _, e3, e8 T o c1 c3 c4 hT, c1, c2, c3, c4⟩) e4 e5 e6 e7 fun c o q1 _ q2 q3 e => e8 c o q1 q2 q3 e
theorem lz_stop {Q : Option Value → Shared → Prop} (Z : ZipSep2 z TI TO i1 i2 fp1 fp2) (D1 : Draws prog w A.in1 i1 fp1 n1 P1 St1) (D2 : Draws prog w A.in1 i2 fp2 n2 P2 St2) (x : LzS s.heap z TI TO S i1 i2) (hTI : IsTupOf2 s.heap TI (.ref i1) (.ref i2)) (st1 : St1 n1 s.heap) (st2 : St2 n1 s.heap) (hl : n1 ≤ n2)
    (hQ : ∀ g tk, (∀ c o, c ≠ z → c ≠ TO → c ≠ i1 → c ≠ i2 → s.heap.get? c = some o → g.get? c = some o) → Q none { s with heap := g, toks := tk }) : wpAny (model prog w) A (pyNext (.ref z)) Q E s := by
  rcases x with ⟨hz, a, b, hTO⟩ | ⟨T, f, o, hz, hT, c1, c2, c3, c4⟩
  · exact wpAny_pyNext_zipD2_end Z D1 D2 hz hTI hTO st1 st2 (Nat.le_refl _) hl (.inl rfl) fun g tk k => hQ g tk k
  · have hy : s.TypeIs (.ref z) "zip" := ⟨_, hz, rfl⟩
    unfold pyNext
    refine wpAny_bind (wpAny_attempt (wpAny_callSpecial?_slot (name := Str.ofString "__next__") hy F.slot_zip_next (wpAny_call_entry F.slot_zip_next hy F.entry_zip_next (lz_end Z D1 D2 hz hT hTI st1 fun g tk e k he => ?_) (F.args_zip_next_1 _))))
    obtain ⟨oe, ho, hc⟩ := he
    refine wpAny_bind (wpAny_isInstance (T := "StopIteration") (b := true) ⟨oe, ho, hc⟩ isSubtype_stop ?_)
    exact wpAny_pure (hQ g tk fun c o q1 _ q2 q3 e => k c o q1 q2 q3 e)
/-- the pairs that were given out -/
structure LzG (P1 P2 : Nat → Value → Prop) (lo : Addr) (h : Heap) (as : List Addr) : Prop where
  rise : as.Pairwise (· < ·)
  above : ∀ a ∈ as, lo < a
  pairs : ∀ (j : Nat) (a : Addr), as[j]? = some a → ∃ x y, P1 j x ∧ P2 j y ∧ IsTupOf2 h a x y
theorem LzG.mem {h : Heap} {lo : Addr} {as : List Addr} (g : LzG P1 P2 lo h as) {a : Addr} (ha : a ∈ as) : a < h.objs.size := by
  obtain ⟨j, hj⟩ := List.mem_iff_getElem?.1 ha
  obtain ⟨_, _, _, _, e⟩ := g.pairs j a hj
  exact Heap.lt_size e
/-- a list as list() makes it -/
abbrev LzL (h : Heap) (S : Addr) (acc : Array Value) (c : Nat) : Prop := h.get? S = some { cls := .type "list", dict := none, data := .seq acc c, slots := #[] }
theorem lz_loop {R : Result → Shared → Prop} (Z : ZipSep2 z TI TO i1 i2 fp1 fp2) (D1 : Draws prog w A.in1.in1 i1 fp1 n1 P1 St1) (D2 : Draws prog w A.in1.in1 i2 fp2 n2 P2 St2) (hl : n1 ≤ n2) (hn : n1 ≤ sizeLine) (zS : z < S) (tS : TI < S) (oS : TO < S) (aS : i1 < S) (bS : i2 < S) (f1 : ∀ b ∈ fp1, b < S) (f2 : ∀ b ∈ fp2, b < S) (res : Value) {h1 : Heap}
    (hR : ∀ g tk acc c as, (∀ b o, b ≠ S → b ≠ z → b ≠ TO → b ≠ i1 → b ≠ i2 → h1.get? b = some o → g.get? b = some o) → LzL g S acc c → as.length = n1 → LzG P1 P2 S g as → acc.toList = as.map Value.ref → R (.ok (.ret res)) { s with heap := g, toks := tk }) :
    ∀ (k i : Nat) (h : Heap) (tk c : Nat) (acc : Array Value) (as : List Addr), n1 - i = k → i ≤ n1 → LzS h z TI TO S i1 i2 → IsTupOf2 h TI (.ref i1) (.ref i2) → St1 i h → St2 i h → (∀ b o, b ≠ S → b ≠ z → b ≠ TO → b ≠ i1 → b ≠ i2 → h1.get? b = some o → h.get? b = some o) → LzL h S acc c → acc.toList = as.map Value.ref → as.length = i → LzG P1 P2 S h as →
      codeAny (model prog w) A (.builtin "list.extend.loop" ⟨[.ref S, .ref z, res], []⟩) R { s with heap := h, toks := tk } := by
  intro k
  induction k with
  | zero =>
    intro i h tk c acc as hk hi x hTI st1 st2 kp hS hacc hal hG
    have hin : i = n1 := by omega
    subst hin
    refine codeAny_builtin F.entry_extend_loop ?_; rw [Around.under_plainId F.plain_extend_loop _]; show wpAny _ A.in1 (pyNext (.ref z) >>= _) _ _ _
    refine wpAny_bind (lz_stop (s := { s with heap := h, toks := tk }) (A := A.in1) Z D1 D2 x hTI st1 st2 hl fun g tg k1 => ?_)
    have kS : ∀ b o, S ≤ b → h.get? b = some o → g.get? b = some o := fun b o hb e => k1 b o (Nat.ne_of_gt (Nat.lt_of_lt_of_le zS hb)) (Nat.ne_of_gt (Nat.lt_of_lt_of_le oS hb)) (Nat.ne_of_gt (Nat.lt_of_lt_of_le aS hb)) (Nat.ne_of_gt (Nat.lt_of_lt_of_le bS hb)) e
    refine wpAny_pure (hR g tg acc c as (fun b o q1 q2 q3 q4 q5 e => k1 b o q2 q3 q4 q5 (kp b o q1 q2 q3 q4 q5 e)) (kS S _ (Nat.le_refl _) hS) hal ⟨hG.rise, hG.above, fun j a hj => ?_⟩ hacc)
    obtain ⟨u, v, e1, e2, e3⟩ := hG.pairs j a hj
    exact ⟨u, v, e1, e2, kS a _ (Nat.le_of_lt (hG.above a (List.mem_of_getElem? hj))) e3⟩
  | succ k ih =>
    intro i h tk c acc as hk hi x hTI st1 st2 kp hS hacc hal hG
    have hlt : i < n1 := by omega
    have hSl : S < h.objs.size := Heap.lt_size hS
    have hzn : acc.size = i := by rw [← Array.length_toList, hacc, List.length_map, hal]
    refine codeAny_builtin F.entry_extend_loop ?_; rw [Around.under_plainId F.plain_extend_loop _]; show wpAny _ A.in1 (pyNext (.ref z) >>= _) _ _ _
    refine wpAny_bind (lz_next (s := { s with heap := h, toks := tk }) (A := A.in1) Z D1 D2 x hSl (Nat.lt_trans aS hSl) (Nat.lt_trans bS hSl) hTI st1 st2 hlt (Nat.lt_of_lt_of_le hlt hl) fun u v g tg e1 e2 x' sa sb hT hg k1 => ?_)
    dsimp only at hT hg k1 ⊢
    have kS : ∀ b o, S ≤ b → h.get? b = some o → g.get? b = some o := fun b o hb e => k1 b o (Nat.ne_of_gt (Nat.lt_of_lt_of_le zS hb)) (Nat.ne_of_gt (Nat.lt_of_lt_of_le oS hb)) (Nat.ne_of_gt (Nat.lt_of_lt_of_le aS hb)) (Nat.ne_of_gt (Nat.lt_of_lt_of_le bS hb)) e
    have hSg := kS S _ (Nat.le_refl _) hS
    have up : ∀ b o, b ≠ S → g.get? b = some o → (g.update S (Obj.mapSeq (·.push (Value.ref h.objs.size)))).get? b = some o := fun b o q e => (Heap.get?_update_other _ _ (fun r => q r.symm)).trans e
    have n1S : ∀ b ∈ fp1, b ≠ S := fun b hb => Nat.ne_of_lt (f1 b hb)
    have n2S : ∀ b ∈ fp2, b ≠ S := fun b hb => Nat.ne_of_lt (f2 b hb)
    show wpAny _ A.in1 (updateSeq S (·.push (Value.ref h.objs.size)) >>= _) _ _ _; refine wpAny_bind ?_
    refine wpAny_updateSeq hSg rfl (wpAny_pure ⟨plainId_quiet F.plain_extend_loop _, ih (i + 1) _ tg _ (acc.push (Value.ref h.objs.size)) (as ++ [h.objs.size]) (by omega) hlt (x'.keep (Nat.ne_of_lt zS) (Nat.ne_of_lt oS) up) (up _ _ (Nat.ne_of_lt tS) (k1 TI _ Z.TIz Z.TITO Z.TIi1 Z.TIi2 hTI)) (D1.frame _ _ _ sa fun b hb o e => up b o (n1S b hb) e) (D2.frame _ _ _ sb fun b hb o e => up b o (n2S b hb) e)
      (fun b o q1 q2 q3 q4 q5 e => up b o q1 (k1 b o q2 q3 q4 q5 (kp b o q1 q2 q3 q4 q5 e))) (Heap.get?_update_self _ hSg rfl) (by rw [Array.toList_push, hacc, List.map_append]; rfl) (by rw [List.length_append, hal]; rfl) ⟨?_, ?_, ?_⟩⟩) (by rw [hzn]; omega) (by show (acc.push (Value.ref h.objs.size)).size ≤ sizeLine + 1; rw [Array.size_push, hzn]; omega)
    · refine List.pairwise_append.2 ⟨hG.rise, List.pairwise_singleton _ _, fun a ha b hb => ?_⟩
      rw [List.mem_singleton.1 hb]
      exact hG.mem ha
    · intro a ha
      rcases List.mem_append.1 ha with ha | ha
      · exact hG.above a ha
      · rw [List.mem_singleton.1 ha]; exact hSl
    · intro j b hj
      by_cases h1 : j < as.length
      · rw [List.getElem?_append_left h1] at hj
        obtain ⟨u', v', a1, a2, a3⟩ := hG.pairs j b hj
        have hb := hG.above b (List.mem_of_getElem? hj)
        exact ⟨u', v', a1, a2, up b _ (Nat.ne_of_gt hb) (kS b _ (Nat.le_of_lt hb) a3)⟩
      · rw [List.getElem?_append_right (by omega)] at hj
        have e0 : j - as.length = 0 := by
          have := get_lt hj
          rw [List.length_singleton] at this
          omega
        rw [e0] at hj
        cases hj
        have ej : j = i := by omega
        subst ej
        exact ⟨u, v, e1, e2, up _ _ (Nat.ne_of_gt hSl) hT⟩
theorem lz_no_len : typeLookup (.type "zip") "__len__" = pure none := by rw [typeLookup_type, builtinLookup_eq_fast]; kernel_rfl
theorem lz_no_hint : typeLookup (.type "zip") "__length_hint__" = pure none := by rw [typeLookup_type, builtinLookup_eq_fast]; kernel_rfl
theorem lz_list {Q : Value → Shared → Prop} (Z : ZipSep2 z TI TO i1 i2 fp1 fp2) (D1 : Draws prog w A.in1.in1.in1 i1 fp1 n1 P1 St1) (D2 : Draws prog w A.in1.in1.in1 i2 fp2 n2 P2 St2) (hl : n1 ≤ n2) (hn : n1 ≤ sizeLine) (hz : IsZip s.heap z TI TO .none) (hTI : IsTupOf2 s.heap TI (.ref i1) (.ref i2)) (hTO : IsTupOf2 s.heap TO .none .none) (st1 : St1 0 s.heap) (st2 : St2 0 s.heap) (aS : i1 < s.heap.objs.size) (bS : i2 < s.heap.objs.size) (f1 : ∀ b ∈ fp1, b < s.heap.objs.size) (f2 : ∀ b ∈ fp2, b < s.heap.objs.size)
    (hQ : ∀ g tk acc c as, (∀ b o, b ≠ z → b ≠ TO → b ≠ i1 → b ≠ i2 → s.heap.get? b = some o → g.get? b = some o) → LzL g s.heap.objs.size acc c → as.length = n1 → LzG P1 P2 s.heap.objs.size g as → acc.toList = as.map Value.ref → Q (.ref s.heap.objs.size) { s with heap := g, toks := tk }) :
    wpAny (model prog w) A (call (.type "list") [.ref z]) Q E s := by
  refine callType_codes (Q₁ := fun ob s1 => ob = .ref s.heap.objs.size ∧ s1 = { s with heap := s.heap.push { cls := .type "list", data := .seq #[] } }) F.called_list (F.typeCall_list_1 _) F.entry_list_init (code_list_new _ ⟨rfl, rfl⟩) fun ob s1 e1 => ?_
  obtain ⟨rfl, rfl⟩ := e1
  have zS : z < s.heap.objs.size := Heap.lt_size hz
  have tS : TI < s.heap.objs.size := Heap.lt_size hTI
  have oS : TO < s.heap.objs.size := Heap.lt_size hTO
  generalize hSe : s.heap.objs.size = S at *
  have pu : ∀ b o, s.heap.get? b = some o → (s.heap.push { cls := .type "list", data := .seq #[] }).get? b = some o := fun b o e => Heap.get?_push_of_some _ e
  have hS0 : (s.heap.push { cls := .type "list", data := .seq #[] }).get? S = some { cls := .type "list", data := .seq #[] } := hSe ▸ Heap.get?_push_size _ rfl
  generalize s.heap.push { cls := .type "list", data := .seq #[] } = h1 at pu hS0
  refine ⟨⟨_, hS0, rfl⟩, F.args_list_init_2 _ _, ?_⟩
  show wpAny _ _ (do let old ← Builtin.List.listItems (.ref S); Builtin.List.listUpdate (.ref S) (fun _ => #[]); letGo old.toList.reverse; Builtin.List.listExtendWith (.ref S) (.ref z) .none) _ _ _
  refine wpAny_bind ?_; unfold Builtin.List.listItems
  refine wpAny_bind (wpAny_seqItems hS0 rfl (wpAny_pure ?_))
  show wpAny _ _ (updateSeq S (fun _ => #[]) >>= fun _ => letGo (#[] : Array Value).toList.reverse >>= fun _ => Builtin.List.listExtendWith (.ref S) (.ref z) .none) _ _ _
  refine wpAny_bind (wpAny_updateSeq hS0 rfl ?_)
  have hS2 := Heap.get?_update_self (Obj.mapSeq (fun _ => (#[] : Array Value))) hS0 rfl
  have o2 : ∀ b o, b ≠ S → s.heap.get? b = some o → (h1.update S (Obj.mapSeq (fun _ => (#[] : Array Value)))).get? b = some o := fun b o hb e => (Heap.get?_update_other _ _ (fun r => hb r.symm)).trans (pu b o e)
  refine wpAny_bind (wpAny_letGo ?_)
  generalize h1.update S (Obj.mapSeq (fun _ => (#[] : Array Value))) = h2 at hS2 o2
  clear hS0 pu
  dsimp only
  have hz2 := o2 z _ (Nat.ne_of_lt zS) hz
  have key : ∀ (h : Heap) (c tk : Nat), (∀ b o, b ≠ S → h2.get? b = some o → h.get? b = some o) → LzL h S #[] c → codeAny (model prog w) A.in1 (.builtin "list.extend.loop" ⟨[.ref S, .ref z, .none], []⟩) (wants (fun r s2 => r = Value.none ∧ Q (.ref S) s2) E) { s with heap := h, toks := tk } := by
    intro h c tk hk hS
    have k0 : ∀ b o, b ≠ S → s.heap.get? b = some o → h.get? b = some o := fun b o q e => hk b o q (o2 b o q e)
    exact lz_loop (s := s) (h1 := s.heap) Z D1 D2 hl hn zS tS oS aS bS f1 f2 .none (fun g tg acc c' as e1 e2 e3 e4 e5 => ⟨rfl, hQ g tg acc c' as (fun b o q1 q2 q3 q4 e => e1 b o (Nat.ne_of_lt (hSe ▸ Heap.lt_size e)) q1 q2 q3 q4 e) e2 e3 e4 e5⟩)
      n1 0 h tk c #[] [] (Nat.sub_zero _) (Nat.zero_le _) (.inl ⟨k0 _ _ (Nat.ne_of_lt zS) hz, _, _, k0 _ _ (Nat.ne_of_lt oS) hTO⟩) (k0 _ _ (Nat.ne_of_lt tS) hTI) (D1.frame _ _ _ st1 fun b hb o e => k0 b o (Nat.ne_of_lt (f1 b hb)) e) (D2.frame _ _ _ st2 fun b hb o e => k0 b o (Nat.ne_of_lt (f2 b hb)) e) (fun b o q _ _ _ _ e => k0 b o q e) hS rfl rfl ⟨List.Pairwise.nil, (fun _ z => nomatch z), fun j a hj => by simp at hj⟩
  unfold Builtin.List.listExtendWith
  refine wpAny_bind (wpAny_typeOf (T := "zip") ⟨_, hz2, rfl⟩ ?_)
  have t1 : Builtin.List.listSameRef (.ref S) (.ref z) = false := by simp [Builtin.List.listSameRef, Nat.ne_of_gt zS]
  have t2 : (Value.type "zip" == Value.type "list") = false := by decide
  have t3 : (Value.type "zip" == Value.type "tuple") = false := by decide
  simp only [t1, t2, t3, Bool.or_false, Bool.false_eq_true, if_false]
  refine wpAny_bind (wpAny_pyIter_zip hz2 ?_)
  refine wpAny_bind (wpAny_holding ?_); unfold Builtin.List.listLengthHint
  refine wpAny_bind (wpAny_specialOf (T := "zip") ⟨_, hz2, rfl⟩ lz_no_len ?_); show wpAny _ _ (specialOf (Value.ref z) (Str.ofString "__length_hint__") >>= _) _ _ _
  refine wpAny_bind (wpAny_specialOf (T := "zip") ⟨_, hz2, rfl⟩ lz_no_hint ?_)
  refine wpAny_pure ?_; show wpAny _ _ (rule "list.extend.makes-room" >>= fun _ => Builtin.List.listTouch (.ref S) >>= fun _ => again (.builtin "list.extend.loop" ⟨[.ref S, .ref z, .none], []⟩)) _ _ _
  refine wpAny_bind (wpAny_rule ?_); refine wpAny_bind ?_
  show wpAny _ _ (updateSeq S (·.push .none) >>= fun _ => updateSeq S (·.pop)) _ _ _; refine wpAny_bind (wpAny_updateSeq hS2 rfl ?_)
  have hS3 := Heap.get?_update_self (Obj.mapSeq (·.push Value.none)) hS2 rfl
  refine wpAny_updateSeq (hz := by seq_fits) hS3 rfl ?_
  have hS4 := Heap.get?_update_self (Obj.mapSeq (·.pop)) hS3 rfl
  exact wpAny_pure ⟨plainId_quiet F.plain_extend_loop _, key _ _ _ (fun b o q e => (Heap.get?_update_other _ _ (fun r => q r.symm)).trans ((Heap.get?_update_other _ _ (fun r => q r.symm)).trans e)) hS4⟩
end
/-- tuples at new places -/
def putP : Hp → List Addr → List (V × V) → Hp
  | H, a :: as, p :: ps => putP (upd H a (.tup [p.1, p.2])) as ps
  | H, _, _ => H
theorem putP_off {b : Addr} : ∀ (as : List Addr) (ps : List (V × V)) (H : Hp), b ∉ as → putP H as ps b = H b
  | [], _, _, _ => rfl
  | _ :: _, [], _, _ => rfl
  | a :: as, p :: ps, H, h => (putP_off as ps (upd H a (.tup [p.1, p.2])) fun z => h (List.mem_cons_of_mem _ z)).trans (upd_ne fun z => h (z ▸ List.mem_cons_self))
theorem putP_at : ∀ (as : List Addr) (ps : List (V × V)) (H : Hp), as.Nodup → ∀ (j : Nat) (a : Addr) (p : V × V), as[j]? = some a → ps[j]? = some p → putP H as ps a = some (.tup [p.1, p.2])
  | [], _, _, _, j, a, p, h, _ => by simp at h
  | _ :: _, [], _, _, j, a, p, _, h => by simp at h
  | b :: as, q :: ps, H, hn, 0, a, p, h1, h2 => by
    cases h1
    cases h2
    exact (putP_off as ps _ (List.nodup_cons.1 hn).1).trans upd_same
  | b :: as, q :: ps, H, hn, j + 1, a, p, h1, h2 => putP_at as ps _ (List.nodup_cons.1 hn).2 j a p h1 h2
theorem vals_ix : ∀ {xs : List V} {its : List Value}, Vals xs its → ∀ {j : Nat} {v : Value}, its[j]? = some v → ∃ x, xs[j]? = some x ∧ RelV x v
  | _, _, .nil, j, v, h => by simp at h
  | _, _, .cons r _, 0, v, h => by cases h; exact ⟨_, rfl, r⟩
  | _, _, .cons _ k, j + 1, v, h => vals_ix k (j := j) h
theorem vals_refs' : ∀ as : List Addr, Vals (as.map V.ref) (as.map Value.ref)
  | [] => .nil
  | _ :: as => .cons rfl (vals_refs' as)
section
variable {X : Cx} {pins : List (Addr × Obj)} {σ : L2.St} {H : Hp} {s : Shared} {g : Heap} {tk : Nat} {xs ys : List V} {its jts : List Value} {acc : Array Value} {c : Nat} {as : List Addr} {S : Addr}
theorem lz_laid (I : Inv X pins σ H s) (hz : xs.length ≤ sizeLine) (hx : Vals xs its) (hy : Vals ys jts) (hk : ∀ b o, s.heap.get? b = some o → g.get? b = some o) (hS0 : s.heap.objs.size ≤ S) (hS : LzL g S acc c) (hl : as.length = xs.length) (hG : LzG (fun j v => its.toArray[j]? = some v) (fun j v => jts.toArray[j]? = some v) S g as) (hacc : acc.toList = as.map Value.ref) :
    ∃ H' : Hp, (∀ b o, H b = some o → H' b = some o) ∧ H S = none ∧ (∀ t ∈ as, H t = none) ∧ S ∉ as ∧ H' S = some (.lst (as.map V.ref)) ∧ (∀ (j : Nat) (a : Addr), as[j]? = some a → ∃ x y, xs[j]? = some x ∧ ys[j]? = some y ∧ H' a = some (.tup [x, y])) ∧ Inv X pins σ H' { s with heap := g, toks := tk } := by
  have nS : S ∉ as := fun z => Nat.lt_irrefl _ (hG.above _ z)
  have nd : as.Nodup := hG.rise.imp fun h => Nat.ne_of_lt h
  have new : ∀ t ∈ as, H t = none := fun t ht => I.hok.fresh (Nat.le_of_lt (Nat.lt_of_le_of_lt hS0 (hG.above t ht)))
  have newS : H S = none := I.hok.fresh hS0
  obtain ⟨K1, hK1⟩ : ∃ K1, K1 = putP (upd H S (.lst (as.map V.ref))) as (xs.zip ys) := ⟨_, rfl⟩
  have off : ∀ b, b ∉ as → b ≠ S → K1 b = H b := fun b h1 h2 => by rw [hK1, putP_off as _ _ h1, upd_ne h2]
  have low : ∀ b o, s.heap.get? b = some o → b ∉ as ∧ b ≠ S := fun b o e =>
    ⟨fun z => Nat.lt_irrefl _ (Nat.lt_trans (Nat.lt_of_lt_of_le (Heap.lt_size e) hS0) (hG.above b z)), Nat.ne_of_lt (Nat.lt_of_lt_of_le (Heap.lt_size e) hS0)⟩
  have eS : K1 S = some (.lst (as.map V.ref)) := by rw [hK1, putP_off as _ _ nS, upd_same]
  have keep : ∀ b u, H b = some u → K1 b = some u := fun b u e => (off b (fun z => by rw [new b z] at e; cases e) (fun z => by rw [z, newS] at e; cases e)).trans e
  have tups : ∀ (j : Nat) (a : Addr), as[j]? = some a → ∃ x y u v, xs[j]? = some x ∧ ys[j]? = some y ∧ RelV x u ∧ RelV y v ∧ K1 a = some (.tup [x, y]) ∧ IsTupOf2 g a u v := fun j a hj => by
    obtain ⟨u, v, e1, e2, e3⟩ := hG.pairs j a hj
    rw [List.getElem?_toArray] at e1 e2
    obtain ⟨x, x1, x2⟩ := vals_ix hx e1
    obtain ⟨y, y1, y2⟩ := vals_ix hy e2
    exact ⟨x, y, u, v, x1, y1, x2, y2, hK1 ▸ putP_at as _ _ nd j a (x, y) hj (List.getElem?_zip_eq_some.2 ⟨x1, y1⟩), e3⟩
  refine ⟨K1, keep, newS, new, nS, eS, fun j a hj => ?_, ?_⟩
  · obtain ⟨x, y, _, _, x1, y1, _, _, e, _⟩ := tups j a hj
    exact ⟨x, y, x1, y1, e⟩
  refine I.call' (ch := []) rfl ⟨fun b o q _ _ _ => hk b o q, fun b o q _ _ _ => ⟨o.slots, hk b o q⟩, fun b o q n _ => ?_, fun b o q _ => ⟨o, hk b o q⟩, fun b u q => keep b _ q, fun b o u q => keep b _ q, fun b ps q => ⟨#[], by rw [keep b _ q]; simp⟩⟩ (fun b u q => ?_) I.bare fun b r => by simp at r
  · obtain ⟨z1, z2⟩ := low b o q
    exact (off b z1 z2).trans n
  · by_cases hb : b ∈ as
    · obtain ⟨j, hj⟩ := List.mem_iff_getElem?.1 hb
      obtain ⟨x, y, u', v', _, _, r1, r2, e, e3⟩ := tups j b hj
      rw [e] at q
      cases q
      exact ⟨by show 2 ≤ sizeLine; decide, [u', v'], .cons r1 (.cons r2 .nil), ⟨_, e3, rfl, _, rfl⟩⟩
    · by_cases hb2 : b = S
      · subst hb2
        rw [eS] at q
        cases q
        refine ⟨by rw [List.length_map, hl]; exact hz, acc.toList, c, by rw [hacc]; exact vals_refs' as, ?_⟩
        rw [Array.toArray_toList]
        exact hS
      · rw [off b hb hb2] at q
        exact (I.hok b u q).stay (fun d v _ y => hk d v y) (fun d y => keep d _ y) fun d xs y => keep d _ y
end
/-- what zip walks over: a list or a tuple -/
structure LzSrc (prog : Program) (w : World) (a : Addr) (its : Array Value) (h : Heap) : Prop where
  ex : ∃ (o : Obj) (B : Heap → Prop), Begins (.ref a) o B ∧ B h ∧ a < h.objs.size ∧ ∀ (A : Around), A.handled = none → ∀ it : Addr, a ≠ it → ∃ St, Draws prog w A it [it, a] its.size (fun i v => its[i]? = some v) St ∧ ∀ g : Heap, g.get? it = some o → (∀ b ob, h.get? b = some ob → g.get? b = some ob) → St 0 g
theorem LzSrc.list {prog : Program} {w : World} {a : Addr} {its : Array Value} {h : Heap} (p : h.IsList a its) : LzSrc prog w a its h :=
  ⟨_, _, begins_list a its, p, (by obtain ⟨o, e, _⟩ := id p; exact Heap.lt_size e), fun A hh it hne => ⟨_, Draws.list hh it a hne its, fun g e k => ⟨⟨_, e, rfl, rfl⟩, p.at fun o e => k a o e⟩⟩⟩
theorem LzSrc.tuple {prog : Program} {w : World} {a : Addr} {its : Array Value} {h : Heap} (p : h.IsTuple a its) : LzSrc prog w a its h :=
  ⟨_, _, begins_tuple a its, p, (by obtain ⟨o, e, _⟩ := id p; exact Heap.lt_size e), fun A hh it hne => ⟨_, Draws.tuple hh it a hne its, fun g e k => ⟨⟨_, e, rfl, rfl⟩, p.at fun o e => k a o e⟩⟩⟩
theorem lz_zip {prog : Program} {w : World} {A : Around} {E : Value → Shared → Prop} {s : Shared} {a b : Addr} {its jts : Array Value} {Q : Value → Shared → Prop} (hh : A.in1.in1.in1.handled = none) (x1 : LzSrc prog w a its s.heap) (x2 : LzSrc prog w b jts s.heap) (hl : its.size ≤ jts.size) (hn : its.size ≤ sizeLine)
    (hQ : ∀ g tk acc c as S, (∀ b o, s.heap.get? b = some o → g.get? b = some o) → s.heap.objs.size ≤ S → LzL g S acc c → as.length = its.size → LzG (fun j v => its[j]? = some v) (fun j v => jts[j]? = some v) S g as → acc.toList = as.map Value.ref → Q (.ref S) { s with heap := g, toks := tk }) :
    wpAny (model prog w) A (call (.type "zip") [.ref a, .ref b]) (fun v s' => wpAny (model prog w) A (call (.type "list") [v]) Q E s') E s := by
  obtain ⟨o1, B1, b1, b1h, la, d1⟩ := x1.ex
  obtain ⟨o2, B2, b2, b2h, lb, d2⟩ := x2.ex
  obtain ⟨u1, D1, e1⟩ := d1 _ hh s.heap.objs.size (Nat.ne_of_lt la)
  obtain ⟨u2, D2, e2⟩ := d2 _ hh (s.heap.objs.size + 1) (Nat.ne_of_lt (Nat.lt_succ_of_lt lb))
  refine zip_begins2 b1 b2 b1h b2h fun h hz hTI hTO h1 h2 hsz hk => ?_
  have hs : ∀ c : Nat, c < s.heap.objs.size + 5 → c < h.objs.size := fun c hc => by rw [hsz]; exact hc
  have ka : ∀ c : Nat, c < s.heap.objs.size → c < s.heap.objs.size + 5 := fun c hc => by omega
  refine lz_list (s := { s with heap := h }) (zsep s.heap.objs.size a b la lb) D1 D2 hl hn hz hTI hTO (e1 h h1 hk) (e2 h h2 hk) (hs _ (by show (_ : Nat) < _; omega)) (hs _ (by show (_ : Nat) < _; omega)) (fun c hc => ?_) (fun c hc => ?_) fun g tk acc c as q1 q2 q3 q4 q5 => ?_
  · rcases List.mem_cons.1 hc with rfl | hc
    · exact hs _ (by show (_ : Nat) < _; omega)
    · rw [List.mem_singleton.1 hc]; exact hs _ (ka a la)
  · rcases List.mem_cons.1 hc with rfl | hc
    · exact hs _ (by show (_ : Nat) < _; omega)
    · rw [List.mem_singleton.1 hc]; exact hs _ (ka b lb)
  · refine hQ g tk acc c as h.objs.size (fun q o e => ?_) (by rw [hsz]; exact Nat.le_add_right _ _) q2 q3 q4 q5
    have hq : q < s.heap.objs.size := Heap.lt_size e
    have nq : ∀ k : Nat, q ≠ s.heap.objs.size + k := fun k => Nat.ne_of_lt (Nat.lt_of_lt_of_le hq (Nat.le_add_right _ k))
    exact q1 q o (nq 4) (nq 3) (nq 0) (nq 1) (hk q o e)
/-- list(zip(a, b)) -/
def rListZip (K : PySem.W.Frag) : List V → Hp → VK → Prop := fun vs H Q => ∃ (a b : Addr) (xs ys : List V), vs = [.ref a, .ref b] ∧ (SqL K H a xs ∨ SqT K H a xs) ∧ (SqL K H b ys ∨ SqT K H b ys) ∧ xs.length ≤ ys.length ∧
  ∀ (H' : Hp) (p : Addr) (ts : List Addr), (∀ b o, H b = some o → H' b = some o) → H p = none → (∀ t ∈ ts, H t = none) → p ∉ ts → H' p = some (.lst (ts.map V.ref)) → ts.length = xs.length → (∀ (j : Nat) (t : Addr), ts[j]? = some t → ∃ x y, xs[j]? = some x ∧ ys[j]? = some y ∧ H' t = some (.tup [x, y])) → Q (.ref p) H'
def tListZip (K : PySem.W.Frag) (ta : TA) : TE := fun σ H Q => ta σ H fun vs H1 => rListZip K vs H1 Q
theorem vals_len : ∀ {xs : List V} {its : List Value}, Vals xs its → xs.length = its.length
  | _, _, .nil => rfl
  | _, _, .cons _ k => congrArg (· + 1) (vals_len k)
theorem lz_src {X : Cx} {pins : List (Addr × Obj)} {σ : L2.St} {H : Hp} {s : Shared} {a : Addr} {xs : List V} (I : Inv X pins σ H s) (h : SqL X.K H a xs ∨ SqT X.K H a xs) : ∃ its, Vals xs its ∧ LzSrc X.prog X.w a its.toArray s.heap ∧ xs.length ≤ sizeLine := by
  rcases h with h | h
  · obtain ⟨its, rv, p1, hz⟩ := I.list h
    exact ⟨its, rv, .list p1.isList, hz⟩
  · obtain ⟨its, rv, p1, hz⟩ := I.tuple h
    exact ⟨its, rv, .tuple p1, hz⟩
theorem pe_listZip {X : Cx} {K : PySem.W.Frag} {e e2 : Expr} {ta : TA} {p p2 cpos pos : Pos} (hK : X.K = K) (hc : X.calm = true) (hg : Gl X "list") (hm : X.mg "list" = none) (hg2 : Gl X "zip") (hm2 : X.mg "zip" = none) (ha : PA X [e, e2] ta)
    (hs2 : starEach [e, e2] X.env = (false, eval e X.env) :: starEach [e2] X.env := by rfl) (hpl : (backTo cpos (starEach [e2] X.env)).any (·.1) = false := by rfl)
    (hs : starEach [.Call (.Name "zip" p2) [e, e2] [] cpos] X.env = (false, eval (.Call (.Name "zip" p2) [e, e2] [] cpos) X.env) :: starEach [] X.env := by rfl) :
    PE X (.Call (.Name "list" p) [.Call (.Name "zip" p2) [e, e2] [] cpos] [] pos) (tListZip K ta) := by
  subst hK
  refine ⟨fun pins s σ H Q I hq => ?_⟩
  refine Call_ (ld_blt I hg hm PyProof.Rows.boot_list ?_)
  refine PyProof.Rows.callWith_type1 ?_ hs rfl
  rw [hs]
  show wpAny _ _ (spliced ((false, eval (.Call (.Name "zip" p2) [e, e2] [] cpos) X.env) :: backTo pos (starEach [] X.env))) _ _ s
  refine Calls.spliced_cons ?_
  refine Call_ (ld_blt I hg2 hm2 PyProof.Rows.boot_zip (PyProof.Rows.callWith_type1 (thn (ha.run cpos pins s σ H _ I hq) fun us s1 z => ?_) hs2 hpl))
  obtain ⟨vs, H1, I1, r1, a, b, xs, ys, rfl, hx, hy, hle, q⟩ := z
  obtain ⟨u1, u2, rfl, e1, e2⟩ := r1.two
  cases (show u1 = Value.ref a from e1)
  cases (show u2 = Value.ref b from e2)
  obtain ⟨its, rx, x1, hz⟩ := lz_src I1 hx
  obtain ⟨jts, ry, x2, _⟩ := lz_src I1 hy
  have n1 := vals_len rx
  have n2 := vals_len ry
  refine thn (lz_zip (I1.ok.hd hc) x1 x2 (by show its.length ≤ jts.length; omega) (by show its.length ≤ _; omega) (Q := fun v s' => ∃ x H', Inv X pins σ H' s' ∧ RelV x v ∧ Q x H') fun g tk acc c as S k hS0 hS hl hG hacc => ?_) fun v s' z => ?_
  · obtain ⟨H', k1, k2, k3, k4, k5, k6, J⟩ := lz_laid (tk := tk) I1 hz rx ry k hS0 hS (by rw [hl]; show its.length = _; omega) hG hacc
    exact ⟨.ref S, H', J, rfl, q H' S as k1 k2 k3 k4 k5 (by rw [hl]; show its.length = _; omega) k6⟩
  · refine Calls.spliced_nil ?_
    exact thn z fun v s2 ⟨x, H', J, r, q⟩ => ⟨x, H', J, r, q⟩
theorem isds_of {H : Hp} : ∀ {vs : List V} {ds : List PyData}, vs.length = ds.length → (∀ (j : Nat) (v : V), vs[j]? = some v → ∃ d, ds[j]? = some d ∧ IsD H v d) → IsDs H vs ds
  | [], [], _, _ => .nil
  | [], _ :: _, h, _ => nomatch h
  | _ :: _, [], h, _ => nomatch h
  | v :: vs, d :: ds, h, k => by
    obtain ⟨d', e, h1⟩ := k 0 v rfl
    cases e
    exact .cons h1 (isds_of (Nat.succ.inj h) fun j v e => k (j + 1) v e)
theorem r_listZip {K : PySem.W.Frag} {σ : L2.St} {H : Hp} {Q : VK} {ta : TA} (q : ta σ H fun vs H1 => rListZip K vs H1 Q) : tListZip K ta σ H Q := q
/-- list(zip(words, numbers)) -/
theorem lz_pds {K : PySem.W.Frag} {H : Hp} {Q : VK} {l : List Asn} {a b : Addr} {ks : List Str} {ns : List Int} (S : Sep l H) (hx : SqL K H a (ks.map V.str) ∨ SqT K H a (ks.map V.str)) (hy : SqL K H b (ns.map V.int) ∨ SqT K H b (ns.map V.int)) (hl : ks.length = ns.length) (k : ∀ p H', Sep (LD p (pds (ks.zip ns)) :: l) H' → Q (.ref p) H') : rListZip K [.ref a, .ref b] H Q := by
  refine ⟨a, b, _, _, rfl, hx, hy, by rw [List.length_map, List.length_map, hl]; exact Nat.le_refl _, fun H' p ts e1 e2 e3 e4 e5 e6 e7 => k p H' (ld_close (isds_of ?_ fun j v hv => ?_) (S.grow e1 e2 e5))⟩
  · rw [List.length_map, List.length_map, e6, List.length_map, List.length_zip, hl, Nat.min_self]
  · rw [List.getElem?_map] at hv
    obtain ⟨t, ht, rfl⟩ := Option.map_eq_some_iff.1 hv
    obtain ⟨x, y, hx, hy, ht⟩ := e7 j t ht
    rw [List.getElem?_map] at hx hy
    obtain ⟨w, hw, rfl⟩ := Option.map_eq_some_iff.1 hx
    obtain ⟨n, hn, rfl⟩ := Option.map_eq_some_iff.1 hy
    refine ⟨pd (w, n), ?_, pair_isD ht⟩
    rw [List.getElem?_map, List.getElem?_zip_eq_some (z := (w, n)) |>.2 ⟨hw, hn⟩]
    rfl
end
local macro_rules | `(tactic| walk_at "v1") => `(tactic| (with_reducible refine r_listZip ?_))

/-! tuple + tuple; max of a list of ints -/
def gCatA (K : PySem.W.Frag) : R2 := rCatA K
theorem op_gCatA {X : Cx} {K : PySem.W.Frag} (hK : X.K = K) : OpR X (binaryOp .Add) (gCatA K) := by rw [← hK]; exact op_catA
/-- t + (v,) -/
theorem o_catA1 {l : List Asn} {H : Hp} {K : PySem.W.Frag} {Q : VK} {a b : Addr} {xs : List V} {v : V} {i j : Nat} (S : Sep l H) (hi : l[i]? = some (Tp a xs)) (hj : l[j]? = some (Tp b [v])) (hz : xs.length ≤ 1000) (k : ∀ p H', Sep (Tp p (xs ++ [v]) :: l) H' → Q (.ref p) H') : gCatA K (.ref a) (.ref b) H Q := by
  refine ⟨a, b, xs, [v], rfl, rfl, SqT.of (S.tp hi), SqT.of (S.tp hj), Nat.le_trans (m := 1001) (by rw [List.length_singleton]; omega) (by decide), fun e => ?_, fun _ e => (nomatch e), fun _ _ p hp => k p _ (S.newT hp)⟩
  subst e
  exact k b H (S.addT (S.tp hj))
theorem c_max2 {l : List Asn} {H : Hp} {K : PySem.W.Frag} {Q : VK} {a : Addr} {m n : Int} {i : Nat} (S : Sep l H) (hi : l[i]? = some (At a (.lst [.int m, .int n]))) (k : ∀ c : Int, m ≤ c → n ≤ c → (c = m ∨ c = n) → Q (.int c) H) : rMax K [.ref a] H Q :=
  ⟨a, [m, n], rfl, SqL.of (S.at hi), Nat.succ_pos _, fun c hc hb => k c (hb m List.mem_cons_self) (hb n (List.mem_cons_of_mem _ List.mem_cons_self)) (by simpa using hc)⟩

/-! f'{w:<8}', f'{n:>8,}' -/
section
open PyProof.Rows
section
open PySem.W Builtin Builtin.Str Builtin.Int Builtin.Float
abbrev f8 : FormatSpec := { align := 62, width := some 8, grouping := some ',' }
abbrev l8 : FormatSpec := { align := 60, width := some 8 }
theorem p8 (name : String) : parseFormatSpec (Str.ofString ">8,").cps.toList name 62 = .ok f8 := by rfl
theorem pl8 (name : String) : parseFormatSpec (Str.ofString "<8").cps.toList name 60 = .ok l8 := by rfl
/-- the number's field, by a grouping G -/
def fieldG (G : Nat → Nat → Nat → List Nat → Int → List Nat → List Nat) (neg : Bool) (digits : List Nat) : Str :=
  let sign : List Nat := if neg then [45] else []
  let other : Int := sign.length + ([] : List Nat).length + ([] : List Nat).length
  let ds := if digits.isEmpty then [] else G 3 44 (digits.length + (0 : Int).toNat + 1) digits.reverse 0 []
  let pad := (((8 : Nat) : Int) - other - ds.length).toNat
  ⟨(List.replicate pad 32 ++ sign ++ [] ++ List.replicate 0 32 ++ ds ++ [] ++ List.replicate 0 32).toArray⟩
def GrpOk (G : Nat → Nat → Nat → List Nat → Int → List Nat → List Nat) : Prop :=
  (∀ n s d r o, G n s 0 d r o = o) ∧ (∀ n s t d r o, G n s (t + 1) d r o = (let m := min n (max (max (d.length : Int) r) 1).toNat; let out := List.replicate (m - d.length) 48 ++ (d.take m).reverse ++ o; if (d.drop m).isEmpty && r - m ≤ 0 then out else G n s t (d.drop m) (r - m - 1) (s :: out)))
theorem ret_y {M : Model} {A : Around} {E : Value → Shared → Prop} {s : Shared} {X y : Str} {Q : PySem.Fin → Shared → Prop} (e : X = y) (hz : y.length ≤ sizeLine) (h : ∀ t k, Q (.done (.ret (.str y t))) { s with toks := k }) : wpAny M A (retStr X) Q E s :=
  KXf.ret_text e (e ▸ hz) h
theorem meets_i8 {a : Int} {t u : Tok} {y : Str} (ha : a.natAbs.log2 < 1920) (hz : y.length ≤ sizeLine)
    (hy : ∀ G, GrpOk G → fieldG G (decide (a < 0)) ((Nat.toDigits 10 a.natAbs).map Char.toNat) = y) :
    Meets («int.__format__» ⟨[.int a t, .str (Str.ofString ">8,") u], []⟩) (fun _ R s => ∀ t' k, R (.ok (.ret (.str y t'))) { s with toks := k }) := by
  apply KPc.meets_of
  intro _ _ _ _ _ _ hQ
  unfold Builtin.«int.__format__»
  refine wpAny_bind (wpAny_of_eq (a := (_, _)) rfl ?_)
  refine wpAny_bind (wpAny_of_eq (a := _) rfl ?_)
  kxf_if
  refine wpAny_bind (wpAny_typeNameOf (T := "str") (typeIs_str _ _ _) (by decide) fun _ => ?_)
  refine wpAny_bind (wpAny_of_eq (a := some _) rfl ?_)
  kxf_if
  kxf_if
  refine wpAny_bind (wpAny_typeNameOfCut_int ?_)
  rw [p8]
  kxf_if
  have ht : (f8.type.getD (if ((Str.ofString ">8,").cps.back? == some 0) = true then 0 else 100)) = 100 := by decide +kernel
  rw [ht]
  show wpAny _ _ (do let r ← Builtin.overDigitLimit? a; _) _ _ _
  refine wpAny_bind (wpAny_of_eq (PySem.overDigitLimit_small ha) ?_)
  show wpAny _ _ (retStr _) _ _ _
  refine ret_y (y := y) (Eq.trans (b := fieldG ?G (decide (a < 0)) ((Nat.toDigits 10 a.natAbs).map Char.toNat)) ?e1 (hy ?G ⟨?h0, ?h1⟩)) hz hQ
  case e1 => rfl
  case h0 => exact fun _ _ _ _ _ => rfl
  case h1 => exact fun _ _ _ _ _ _ => rfl
theorem meets_l8 {x : Str} {t u : Tok} (hz : x.length ≤ 1000) :
    Meets («str.__format__» ⟨[.str x t, .str (Str.ofString "<8") u], []⟩) (fun _ R s => ∀ t' k, R (.ok (.ret (.str (Txt.ljust x 8) t'))) { s with toks := k }) := by
  apply KPc.meets_of
  intro _ _ _ _ _ _ hQ
  unfold Builtin.«str.__format__»
  refine wpAny_bind (wpAny_of_eq (a := (_, _, _)) rfl ?_)
  refine wpAny_bind (wpAny_of_eq (a := some _) rfl ?_)
  kxf_if
  kxf_if
  refine wpAny_bind (KXf.cut_str ?_)
  rw [pl8]
  have hb : ((Str.ofString "<8").cps.back? == some 0) = false := by decide +kernel
  have ht : tooLong 8 = false := by decide
  have hs : strSub x 0 x.length = x := by
    unfold strSub
    simp [Str.length]
  have hf : strField x l8 "str" = .ok (if 8 ≤ x.length then none else some (padded x 0 (8 - x.length) 32)) := by
    unfold strField
    by_cases h : 8 ≤ x.length
    · rw [if_pos h]
      simp [h, pure, Except.pure]
    · rw [if_neg h]
      simp [h, hs, pure, Except.pure]
  have e : Txt.ljust x 8 = if 8 ≤ x.length then x else padded x 0 (8 - x.length) 32 := by
    unfold Txt.ljust
    by_cases h : 8 ≤ x.length
    · rw [if_pos (by omega), if_pos h]
    · rw [if_neg (by omega), if_neg h]; rfl
  rw [e] at hQ
  simp only [bind, Except.bind, hb, Bool.and_false, Bool.false_eq_true, if_false, Option.getD_some, ht, hf, pure, Except.pure]
  by_cases h : 8 ≤ x.length
  · rw [if_pos h] at hQ ⊢
    exact wpAny_bind (wpAny_rule (KXf.ret_same rfl hQ))
  · rw [if_neg h] at hQ ⊢
    refine ret_y rfl ?_ hQ
    show (padded x 0 (8 - x.length) 32).cps.size ≤ sizeLine
    unfold padded
    simp only [Array.size_append, Array.size_replicate]
    exact Nat.le_trans (m := 2000) (by unfold Str.length at *; omega) (by decide)
/-! ### groups of three -/
/-- the digits turned round, a comma behind each three -/
def grp : Nat → List Nat → List Nat → List Nat
  | 0, _, o => o
  | t + 1, d, o => if d.length ≤ 3 then d.reverse ++ o else grp t (d.drop 3) (44 :: ((d.take 3).reverse ++ o))
theorem grp_eq {G : Nat → Nat → Nat → List Nat → Int → List Nat → List Nat} (hG : GrpOk G) : ∀ (t : Nat) (d : List Nat) (r : Int) (o : List Nat), 1 ≤ d.length → r ≤ 0 → G 3 44 t d r o = grp t d o
  | 0, d, r, o, _, _ => hG.1 3 44 d r o
  | t + 1, d, r, o, hd, hr => by
    rw [hG.2]
    unfold grp
    by_cases h : d.length ≤ 3
    · have e : (min 3 (max (max (d.length : Int) r) 1).toNat) = d.length := by omega
      rw [if_pos h]
      simp only [e, Nat.sub_self, List.replicate_zero, List.nil_append, List.drop_length, List.isEmpty_nil, Bool.true_and, List.take_length]
      rw [if_pos (by rw [decide_eq_true_iff]; omega)]
    · have e : (min 3 (max (max (d.length : Int) r) 1).toNat) = 3 := by omega
      rw [if_neg h]
      have e2 : 3 - d.length = 0 := by omega
      have e3 : (d.drop 3).isEmpty = false := by
        cases c : d.drop 3 with
        | nil =>
          have := congrArg List.length c
          rw [List.length_drop, List.length_nil] at this
          omega
        | cons => rfl
      simp only [e, e2, e3, List.replicate_zero, List.nil_append, Bool.false_and, Bool.false_eq_true, if_false]
      exact grp_eq hG t _ _ _ (by rw [List.length_drop]; omega) (by omega)
/-- an int's text with commas -/
def cmL (n : Int) : List Nat := (if n < 0 then [45] else []) ++ grp ((Nat.toDigits 10 n.natAbs).length + 1) ((Nat.toDigits 10 n.natAbs).map Char.toNat).reverse []
def cm (n : Int) : Str := ⟨(cmL n).toArray⟩
theorem field_cm {G : Nat → Nat → Nat → List Nat → Int → List Nat → List Nat} (hG : GrpOk G) (n : Int) : fieldG G (decide (n < 0)) ((Nat.toDigits 10 n.natAbs).map Char.toNat) = Txt.rjust (cm n) 8 := by
  have hl : 1 ≤ (Nat.toDigits 10 n.natAbs).length := tDigits_len_ge 10 n.natAbs
  have hd : ((Nat.toDigits 10 n.natAbs).map Char.toNat).isEmpty = false := by
    cases c : (Nat.toDigits 10 n.natAbs) with
    | nil => rw [c] at hl; exact absurd hl (by decide)
    | cons => rfl
  have hg := grp_eq hG ((Nat.toDigits 10 n.natAbs).length + 1) ((Nat.toDigits 10 n.natAbs).map Char.toNat).reverse 0 [] (by rw [List.length_reverse, List.length_map]; exact hl) (Int.le_refl _)
  have hz : (if decide (n < 0) = true then [45] else ([] : List Nat)) = (if n < 0 then [45] else []) := by
    by_cases h : n < 0
    · rw [if_pos (decide_eq_true h), if_pos h]
    · rw [if_neg (by rw [decide_eq_false h]; decide), if_neg h]
  have hcl : (cm n).length = (cmL n).length := List.size_toArray
  unfold fieldG Txt.rjust
  simp only [hd, Bool.false_eq_true, if_false, List.length_map, hz, hcl]
  rw [show (Nat.toDigits 10 n.natAbs).length + (0 : Int).toNat + 1 = (Nat.toDigits 10 n.natAbs).length + 1 from rfl, hg]
  have hc : cmL n = (if n < 0 then [45] else []) ++ grp ((Nat.toDigits 10 n.natAbs).length + 1) ((Nat.toDigits 10 n.natAbs).map Char.toNat).reverse [] := rfl
  generalize (if n < 0 then [45] else ([] : List Nat)) = sg at hc ⊢
  generalize grp ((Nat.toDigits 10 n.natAbs).length + 1) ((Nat.toDigits 10 n.natAbs).map Char.toNat).reverse [] = ds at hc ⊢
  unfold cm
  rw [hc, List.length_append]
  simp only [List.append_nil, List.replicate_zero, List.length_nil]
  by_cases h : (8 : Int) ≤ ((sg.length + ds.length : Nat) : Int)
  · rw [if_pos h]
    have : (((8 : Nat) : Int) - ((sg.length : Int) + ((0 : Nat) : Int) + ((0 : Nat) : Int)) - (ds.length : Int)).toNat = 0 := by omega
    rw [this]
    rfl
  · rw [if_neg h]
    unfold padded
    have : (((8 : Nat) : Int) - ((sg.length : Int) + ((0 : Nat) : Int) + ((0 : Nat) : Int)) - (ds.length : Int)).toNat = 8 - (sg.length + ds.length) := by omega
    rw [this]
    simp
end
/-! ### the field -/
section
open PySem.W
def tFmtS (te ts : TE) : TE := fun σ H Q => te σ H fun x H1 => ts σ H1 fun y H2 => (∃ w : Str, x = .str w ∧ y = .str "<8" ∧ w.length ≤ 1000 ∧ Q (.str (Txt.ljust w 8)) H2) ∨ ∃ i : Int, x = .int i ∧ y = .str ">8," ∧ i.natAbs.log2 < 1920 ∧ (Txt.rjust (cm i) 8).length ≤ sizeLine ∧ Q (.str (Txt.rjust (cm i) 8)) H2
theorem pe_fmtS {X : Cx} {e sp : Expr} {te ts : TE} {pos : Pos} (he : PE X e te) (hs : PE X sp ts) : PE X (.FormattedValue e (-1) (some sp) pos) (tFmtS te ts) := by
  refine ⟨fun pins s σ H Q I h => ?_⟩
  refine wpAny_FormattedValue_spec (thn (he.run pins s σ H _ I h) fun v s1 hv => ?_)
  obtain ⟨x, H1, I1, r1, q⟩ := hv
  refine thn (hs.run pins s1 σ H1 _ I1 q) fun r s2 hr => ?_
  obtain ⟨y, H2, I2, r2, q⟩ := hr
  rcases q with ⟨w, rfl, rfl, hz, q⟩ | ⟨i, rfl, rfl, hz, hz2, q⟩
  · obtain ⟨t, rfl⟩ := r1
    obtain ⟨t2, rfl⟩ := r2
    exact ⟨_, _, rfl, KXf.field_str rfl rfl (by decide +kernel) (by decide +kernel) (fun u => meets_l8 hz) fun t' k => ⟨.str _, H2, I2.tok _, ⟨t', rfl⟩, q⟩⟩
  · obtain ⟨t, rfl⟩ := r1
    obtain ⟨t2, rfl⟩ := r2
    exact ⟨_, _, rfl, KXf.field_int rfl (by decide +kernel) (by decide +kernel) (fun u => meets_i8 hz hz2 fun G hG => field_cm hG i) fun t' k => ⟨.str _, H2, I2.tok _, ⟨t', rfl⟩, q⟩⟩
end
section
variable {σ : L2.St} {H : Hp} {Q : VK}
theorem r_fmtS {te ts : TE} (q : te σ H fun x H1 => ts σ H1 fun y H2 => (∃ w : Str, x = .str w ∧ y = .str "<8" ∧ w.length ≤ 1000 ∧ Q (.str (Txt.ljust w 8)) H2) ∨ ∃ i : Int, x = .int i ∧ y = .str ">8," ∧ i.natAbs.log2 < 1920 ∧ (Txt.rjust (cm i) 8).length ≤ sizeLine ∧ Q (.str (Txt.rjust (cm i) 8)) H2) : tFmtS te ts σ H Q := q
def gLju : V → List V → Hp → VK → Prop := fun x xs H Q => ∃ (a : Str) (i : Int), x = .str a ∧ xs = [.int i] ∧ PadOk i = true ∧ Q (.str (Txt.ljust a i)) H
def gRju : V → List V → Hp → VK → Prop := fun x xs H Q => ∃ (a : Str) (i : Int), x = .str a ∧ xs = [.int i] ∧ PadOk i = true ∧ Q (.str (Txt.rjust a i)) H
theorem mt_gLju {X : Cx} : MtR X "str.ljust" gLju := mt_ljust
theorem mt_gRju {X : Cx} : MtR X "str.rjust" gRju := mt_rjust
theorem m_lju {a : Str} (q : Q (.str (Txt.ljust a 8)) H) : gLju (.str a) [.int 8] H Q := ⟨a, 8, rfl, rfl, by decide +kernel, q⟩
theorem m_rju {a : Str} (q : Q (.str (Txt.rjust a 8)) H) : gRju (.str a) [.int 8] H Q := ⟨a, 8, rfl, rfl, by decide +kernel, q⟩
end
end
local macro_rules | `(tactic| walk_at "v1") => `(tactic| (first
  | with_reducible refine r_fmtS ?_
  | with_reducible refine m_lju ?_
  | with_reducible refine m_rju ?_))
/-- text * int -/
def rMulS : R2 := fun x y H Q => ∃ a n, x = .str a ∧ y = .int n ∧ MulOk a n ∧ Q (.str (Txt.mul a n)) H
theorem op_mulS {X : Cx} : OpR X (binaryOp .Mult) rMulS := by
  intro pins s σ H x y v u Q I rx ry h
  obtain ⟨a, n, rfl, rfl, ok, q⟩ := h
  obtain ⟨t, rfl⟩ := rx
  obtain ⟨t2, rfl⟩ := ry
  exact SB.mul ok fun t' k => ⟨.str _, H, I.tok _, ⟨t', rfl⟩, q⟩
/-! ### the law's own way -/
def tx (l : List Nat) : Str := ⟨l.toArray⟩
theorem tx_len (l : List Nat) : (tx l).length = l.length := List.size_toArray
theorem tx_cps (l : List Nat) : (tx l).cps.toList = l := rfl
theorem tx_app (a b : List Nat) : tx (a ++ b) = tx a ++ tx b := str_eq_of (by rw [cps_app]; rfl)
theorem tx_pre {p q : List Nat} (h : q.length = 3) : cutS (tx (p ++ q)) none (some (-3)) = tx p := by
  rw [tx_app]
  exact cutS_m (n := 3) (by rw [tx_len]; exact h.symm) (by decide)
theorem tx_suf {p q : List Nat} (h : q.length = 3) : cutS (tx (p ++ q)) (some (-3)) none = tx q := by
  refine str_eq_of ?_
  unfold cutS
  rw [HT.sIx_none, tx_cps, tx_len]
  have e : HT.sIx (p ++ q).length 0 (some (-3)) = p.length := by
    show (if (-3 : Int) < 0 then ((-3 : Int) + ((p ++ q).length : Int)).toNat else min (-3 : Int).toNat (p ++ q).length) = _
    rw [if_pos (by omega), List.length_append]
    omega
  rw [e]
  show ((p ++ q).drop p.length).take ((p ++ q).length - p.length) = q
  rw [List.drop_left, List.length_append, List.take_of_length_le (by omega)]
theorem tx_join : ∀ (e : List Nat) (gs : List (List Nat)), Txt.join "," ((e :: gs).map tx) = tx (e ++ gs.flatMap (44 :: ·))
  | e, [] => by
    rw [List.flatMap_nil, List.append_nil]
    rfl
  | e, g :: gs => by
    have h := tx_join g gs
    have e1 : Txt.join "," ((e :: g :: gs).map tx) = tx e ++ "," ++ Txt.join "," ((g :: gs).map tx) := by
      rw [TL.join_eq, TL.join_eq]; rfl
    rw [e1, h, List.flatMap_cons]
    have e2 : ("," : Str) = tx [44] := by decide +kernel
    rw [e2, ← tx_app, ← tx_app]
    congr 1
    simp
theorem grp_cut {t : Nat} {p q o : List Nat} (h : q.length = 3) (hp : 1 ≤ p.length) : grp (t + 1) (p ++ q).reverse o = grp t p.reverse (44 :: (q ++ o)) := by
  show (if (p ++ q).reverse.length ≤ 3 then _ else _) = _
  rw [if_neg (by rw [List.length_reverse, List.length_append]; omega), List.reverse_append]
  have e1 : q.reverse.length = 3 := by rw [List.length_reverse]; exact h
  rw [← e1, List.drop_left, List.take_left, List.reverse_reverse]
theorem grp_end {t : Nat} {e o : List Nat} (h : e.length ≤ 3) (ht : 1 ≤ t) : grp t e.reverse o = e ++ o := by
  cases t with
  | zero => exact absurd ht (by decide)
  | succ t =>
    show (if e.reverse.length ≤ 3 then _ else _) = _
    rw [if_pos (by rw [List.length_reverse]; exact h), List.reverse_reverse]
theorem grp_len : ∀ (t : Nat) (d o : List Nat), (grp t d o).length ≤ 2 * d.length + o.length
  | 0, d, o => by show o.length ≤ _; omega
  | t + 1, d, o => by
    unfold grp
    by_cases h : d.length ≤ 3
    · rw [if_pos h, List.length_append, List.length_reverse]; omega
    · rw [if_neg h]
      refine Nat.le_trans (grp_len t _ _) ?_
      rw [List.length_cons, List.length_append, List.length_reverse, List.length_drop, List.length_take]
      omega
theorem log_40 {n : Int} (h : n.natAbs < 10 ^ 40) : n.natAbs.log2 < 1920 := Nat.lt_of_lt_of_le (PySem.Flt.log2_lt_of (k := 200) (by decide) (Nat.lt_of_lt_of_le h (by decide +kernel))) (by decide)
theorem cm_len {n : Int} (h : n.natAbs < 10 ^ 40) : (cm n).length ≤ 81 := by
  have h1 := grp_len ((Nat.toDigits 10 n.natAbs).length + 1) ((Nat.toDigits 10 n.natAbs).map Char.toNat).reverse []
  have h2 : (Nat.toDigits 10 n.natAbs).length ≤ 40 := PyProof.Rows.digits10_le (by decide) h
  have h3 : (cm n).length = (cmL n).length := List.size_toArray
  rw [List.length_reverse, List.length_map, List.length_nil] at h1
  rw [h3]
  unfold cmL
  rw [List.length_append]
  have : (if n < 0 then [45] else ([] : List Nat)).length ≤ 1 := by split <;> simp
  omega
theorem pad_len {x : Str} : (Txt.rjust x 8).length ≤ x.length + 8 ∧ (Txt.ljust x 8).length ≤ x.length + 8 := by
  unfold Txt.rjust Txt.ljust
  by_cases h : (8 : Int) ≤ (x.length : Int)
  · rw [if_pos h, if_pos h]; omega
  · rw [if_neg h, if_neg h]
    constructor
    · show (Builtin.Str.padded _ _ _ _).cps.size ≤ _
      unfold Builtin.Str.padded
      simp only [Array.size_append, Array.size_replicate]
      unfold Str.length at *
      omega
    · show (Builtin.Str.padded _ _ _ _).cps.size ≤ _
      unfold Builtin.Str.padded
      simp only [Array.size_append, Array.size_replicate]
      unfold Str.length at *
      omega

def top (i : Nat) : Stmt := PySem.Challenge.pw_countsheld_k09_columns_and_texts.main.body.getD i (.Pass ⟨0, 0, 0, 0⟩)
abbrev s_law_source : Stmt := top 22
theorem sc_law_source : FnScope ["script"] ["script"] (defScope s_law_source) := ⟨rfl, rfl, rfl, by decide +kernel, rfl, by decide +kernel, by decide +kernel⟩
abbrev s_law_mixed : Stmt := top 23
theorem sc_law_mixed : FnScope ["cell", "count", "first"] ["cell", "count"] (defScope s_law_mixed) := ⟨rfl, rfl, rfl, by decide +kernel, rfl, by decide +kernel, by decide +kernel⟩
abbrev s_law_draw : Stmt := top 24
theorem sc_law_draw : FnScope ["source", "size", "at", "cell", "value"] ["source", "size"] (defScope s_law_draw) := ⟨rfl, rfl, rfl, by decide +kernel, rfl, by decide +kernel, by decide +kernel⟩
abbrev s_law_word : Stmt := top 25
theorem sc_law_word : FnScope ["source", "words", "word", "k"] ["source"] (defScope s_law_word) := ⟨rfl, rfl, rfl, by decide +kernel, rfl, by decide +kernel, by decide +kernel⟩
abbrev s_law_number : Stmt := top 26
theorem sc_law_number : FnScope ["source", "mode", "number", "k"] ["source"] (defScope s_law_number) := ⟨rfl, rfl, rfl, by decide +kernel, rfl, by decide +kernel, by decide +kernel⟩
abbrev s_law_pairs : Stmt := top 27
theorem sc_law_pairs : FnScope ["source", "most", "pairs", "k", "word"] ["source", "most"] (defScope s_law_pairs) := ⟨rfl, rfl, rfl, by decide +kernel, rfl, by decide +kernel, by decide +kernel⟩
abbrev s_law_model : Stmt := top 28
theorem sc_law_model : FnScope ["pairs", "model", "word", "number"] ["pairs"] (defScope s_law_model) := ⟨rfl, rfl, rfl, by decide +kernel, rfl, by decide +kernel, by decide +kernel⟩
abbrev s_is_word : Stmt := top 10
theorem sc_is_word : FnScope ["value", "letter"] ["value"] (defScope s_is_word) := ⟨rfl, rfl, rfl, by decide +kernel, rfl, by decide +kernel, by decide +kernel⟩
abbrev s_BadWord___init__ : Stmt := inClass (top 3) 0
theorem sc_BadWord___init__ : FnScope ["self", "word"] ["self", "word"] (defScope s_BadWord___init__) := ⟨rfl, rfl, rfl, by decide +kernel, rfl, by decide +kernel, by decide +kernel⟩
abbrev s_check_word : Stmt := top 15
theorem sc_check_word : FnScope ["word"] ["word"] (defScope s_check_word) := ⟨rfl, rfl, rfl, by decide +kernel, rfl, by decide +kernel, by decide +kernel⟩
abbrev s_is_number : Stmt := top 11
theorem sc_is_number : FnScope ["value"] ["value"] (defScope s_is_number) := ⟨rfl, rfl, rfl, by decide +kernel, rfl, by decide +kernel, by decide +kernel⟩
abbrev s_is_short : Stmt := top 12
theorem sc_is_short : FnScope ["value"] ["value"] (defScope s_is_short) := ⟨rfl, rfl, rfl, by decide +kernel, rfl, by decide +kernel, by decide +kernel⟩
abbrev s_BadNumber___init__ : Stmt := inClass (top 4) 0
theorem sc_BadNumber___init__ : FnScope ["self", "number"] ["self", "number"] (defScope s_BadNumber___init__) := ⟨rfl, rfl, rfl, by decide +kernel, rfl, by decide +kernel, by decide +kernel⟩
abbrev s_check_number : Stmt := top 16
theorem sc_check_number : FnScope ["number"] ["number"] (defScope s_check_number) := ⟨rfl, rfl, rfl, by decide +kernel, rfl, by decide +kernel, by decide +kernel⟩
abbrev s_Counts___init__ : Stmt := inClass (top 14) 0
theorem sc_Counts___init__ : FnScope ["self", "numbers", "word", "number"] ["self", "numbers"] (defScope s_Counts___init__) := ⟨rfl, rfl, rfl, by decide +kernel, rfl, by decide +kernel, by decide +kernel⟩
abbrev s_counts_of : Stmt := top 18
theorem sc_counts_of : FnScope ["pairs", "made", "word", "number"] ["pairs"] (defScope s_counts_of) := ⟨rfl, rfl, rfl, by decide +kernel, rfl, by decide +kernel, by decide +kernel⟩
abbrev s_BadCounts___init__ : Stmt := inClass (top 5) 0
theorem sc_BadCounts___init__ : FnScope ["self", "at"] ["self", "at"] (defScope s_BadCounts___init__) := ⟨rfl, rfl, rfl, by decide +kernel, rfl, by decide +kernel, by decide +kernel⟩
abbrev s_is_pair : Stmt := top 17
theorem sc_is_pair : FnScope ["value"] ["value"] (defScope s_is_pair) := ⟨rfl, rfl, rfl, by decide +kernel, rfl, by decide +kernel, by decide +kernel⟩
abbrev s_Counts_of : Stmt := inClass (top 14) 1
theorem sc_Counts_of : FnScope ["cls", "pairs", "at", "pair", "totals", "word", "number"] ["cls", "pairs"] (defScope s_Counts_of) := ⟨rfl, rfl, rfl, by decide +kernel, rfl, by decide +kernel, by decide +kernel⟩
abbrev s_law_told : Stmt := top 29
theorem sc_law_told : FnScope ["model", "words", "word"] ["model"] (defScope s_law_told) := ⟨rfl, rfl, rfl, by decide +kernel, rfl, by decide +kernel, by decide +kernel⟩
abbrev s_Counts_words : Stmt := inClass (top 14) 32
theorem sc_Counts_words : FnScope ["self"] ["self"] (defScope s_Counts_words) := ⟨rfl, rfl, rfl, by decide +kernel, rfl, by decide +kernel, by decide +kernel⟩
abbrev s_Counts_pairs : Stmt := inClass (top 14) 31
theorem sc_Counts_pairs : FnScope ["self", "word"] ["self"] (defScope s_Counts_pairs) := ⟨rfl, rfl, rfl, by decide +kernel, rfl, by decide +kernel, by decide +kernel⟩
abbrev s_law_is_integer : Stmt := top 30
theorem sc_law_is_integer : FnScope ["thing"] ["thing"] (defScope s_law_is_integer) := ⟨rfl, rfl, rfl, by decide +kernel, rfl, by decide +kernel, by decide +kernel⟩
abbrev s_law_equal : Stmt := top 31
theorem sc_law_equal : FnScope ["counts", "model", "told", "pair"] ["counts", "model"] (defScope s_law_equal) := ⟨rfl, rfl, rfl, by decide +kernel, rfl, by decide +kernel, by decide +kernel⟩
abbrev s_law_commas : Stmt := top 32
theorem sc_law_commas : FnScope ["number", "digits", "groups", "text"] ["number"] (defScope s_law_commas) := ⟨rfl, rfl, rfl, by decide +kernel, rfl, by decide +kernel, by decide +kernel⟩
abbrev s_law_line : Stmt := top 33
theorem sc_law_line : FnScope ["word", "number"] ["word", "number"] (defScope s_law_line) := ⟨rfl, rfl, rfl, by decide +kernel, rfl, by decide +kernel, by decide +kernel⟩
abbrev s_Counts_columns : Stmt := inClass (top 14) 35
theorem sc_Counts_columns : FnScope ["self", "words", "shown", "word"] ["self", "words"] (defScope s_Counts_columns) := ⟨rfl, rfl, rfl, by decide +kernel, rfl, by decide +kernel, by decide +kernel⟩
abbrev s_Counts___repr__ : Stmt := inClass (top 14) 36
theorem sc_Counts___repr__ : FnScope ["self", "inner", "word", "number"] ["self"] (defScope s_Counts___repr__) := ⟨rfl, rfl, rfl, by decide +kernel, rfl, by decide +kernel, by decide +kernel⟩
abbrev s_law : Stmt := top 34
theorem sc_law : FnScope ["script", "source", "pairs", "model", "counts", "words", "k", "word", "lines", "told", "inside", "pair"] ["script"] (defScope s_law) := ⟨rfl, rfl, rfl, by decide +kernel, rfl, by decide +kernel, by decide +kernel⟩
structure Ad where
  f_law_source : Addr
  fd_law_source : FuncData
  f_law_mixed : Addr
  fd_law_mixed : FuncData
  f_law_draw : Addr
  fd_law_draw : FuncData
  f_law_word : Addr
  fd_law_word : FuncData
  f_law_number : Addr
  fd_law_number : FuncData
  f_law_pairs : Addr
  fd_law_pairs : FuncData
  f_law_model : Addr
  fd_law_model : FuncData
  f_is_word : Addr
  fd_is_word : FuncData
  f_BadWord___init__ : Addr
  fd_BadWord___init__ : FuncData
  f_check_word : Addr
  fd_check_word : FuncData
  f_is_number : Addr
  fd_is_number : FuncData
  f_is_short : Addr
  fd_is_short : FuncData
  f_BadNumber___init__ : Addr
  fd_BadNumber___init__ : FuncData
  f_check_number : Addr
  fd_check_number : FuncData
  f_Counts___init__ : Addr
  fd_Counts___init__ : FuncData
  f_counts_of : Addr
  fd_counts_of : FuncData
  f_BadCounts___init__ : Addr
  fd_BadCounts___init__ : FuncData
  f_is_pair : Addr
  fd_is_pair : FuncData
  f_Counts_of : Addr
  fd_Counts_of : FuncData
  f_law_told : Addr
  fd_law_told : FuncData
  f_Counts_words : Addr
  fd_Counts_words : FuncData
  f_Counts_pairs : Addr
  fd_Counts_pairs : FuncData
  f_law_is_integer : Addr
  fd_law_is_integer : FuncData
  f_law_equal : Addr
  fd_law_equal : FuncData
  f_law_commas : Addr
  fd_law_commas : FuncData
  f_law_line : Addr
  fd_law_line : FuncData
  f_Counts_columns : Addr
  fd_Counts_columns : FuncData
  f_Counts___repr__ : Addr
  fd_Counts___repr__ : FuncData
  f_law : Addr
  fd_law : FuncData
  c_Counts : Addr
  c_BadWord : Addr
  c_BadNumber : Addr
  c_BadCounts : Addr
  p_Counts_of : Addr
structure Txt (K : PySem.W.Frag) (mg : Str → Option Value) (A : Ad) : Prop where
  F_law_source : Fun K "_law_source" "_law_source" s_law_source A.f_law_source A.fd_law_source
  F_law_mixed : Fun K "_law_mixed" "_law_mixed" s_law_mixed A.f_law_mixed A.fd_law_mixed
  F_law_draw : Fun K "_law_draw" "_law_draw" s_law_draw A.f_law_draw A.fd_law_draw
  F_law_word : Fun K "_law_word" "_law_word" s_law_word A.f_law_word A.fd_law_word
  F_law_number : Fun K "_law_number" "_law_number" s_law_number A.f_law_number A.fd_law_number
  F_law_pairs : Fun K "_law_pairs" "_law_pairs" s_law_pairs A.f_law_pairs A.fd_law_pairs
  F_law_model : Fun K "_law_model" "_law_model" s_law_model A.f_law_model A.fd_law_model
  F_is_word : Fun K "is_word" "is_word" s_is_word A.f_is_word A.fd_is_word
  F_BadWord___init__ : Fun K "__init__" "BadWord.__init__" s_BadWord___init__ A.f_BadWord___init__ A.fd_BadWord___init__
  F_check_word : Fun K "_check_word" "_check_word" s_check_word A.f_check_word A.fd_check_word
  F_is_number : Fun K "is_number" "is_number" s_is_number A.f_is_number A.fd_is_number
  F_is_short : Fun K "is_short" "is_short" s_is_short A.f_is_short A.fd_is_short
  F_BadNumber___init__ : Fun K "__init__" "BadNumber.__init__" s_BadNumber___init__ A.f_BadNumber___init__ A.fd_BadNumber___init__
  F_check_number : Fun K "_check_number" "_check_number" s_check_number A.f_check_number A.fd_check_number
  F_Counts___init__ : Fun K "__init__" "Counts.__init__" s_Counts___init__ A.f_Counts___init__ A.fd_Counts___init__
  F_counts_of : Fun K "_counts_of" "_counts_of" s_counts_of A.f_counts_of A.fd_counts_of
  F_BadCounts___init__ : Fun K "__init__" "BadCounts.__init__" s_BadCounts___init__ A.f_BadCounts___init__ A.fd_BadCounts___init__
  F_is_pair : Fun K "_is_pair" "_is_pair" s_is_pair A.f_is_pair A.fd_is_pair
  F_Counts_of : Fun K "of" "Counts.of" s_Counts_of A.f_Counts_of A.fd_Counts_of
  F_law_told : Fun K "_law_told" "_law_told" s_law_told A.f_law_told A.fd_law_told
  F_Counts_words : Fun K "words" "Counts.words" s_Counts_words A.f_Counts_words A.fd_Counts_words
  F_Counts_pairs : Fun K "pairs" "Counts.pairs" s_Counts_pairs A.f_Counts_pairs A.fd_Counts_pairs
  F_law_is_integer : Fun K "_law_is_integer" "_law_is_integer" s_law_is_integer A.f_law_is_integer A.fd_law_is_integer
  F_law_equal : Fun K "_law_equal" "_law_equal" s_law_equal A.f_law_equal A.fd_law_equal
  F_law_commas : Fun K "_law_commas" "_law_commas" s_law_commas A.f_law_commas A.fd_law_commas
  F_law_line : Fun K "_law_line" "_law_line" s_law_line A.f_law_line A.fd_law_line
  F_Counts_columns : Fun K "columns" "Counts.columns" s_Counts_columns A.f_Counts_columns A.fd_Counts_columns
  F_Counts___repr__ : Fun K "__repr__" "Counts.__repr__" s_Counts___repr__ A.f_Counts___repr__ A.fd_Counts___repr__
  F_law : Fun K "law" "law" s_law A.f_law A.fd_law
  vm_BadWord : mg "BadWord" = some (.ref A.c_BadWord)
  ox_BadWord : OexC K A.c_BadWord
  oi_BadWord : PySem.W.findIn K (.ref A.c_BadWord) "__init__" = some (some (.ref A.f_BadWord___init__))
  ot_BadWord : PySem.W.typeIn K (.ref A.f_BadWord___init__) = some (.type "function")
  xn_BadWord_word : PySem.W.findIn K (.ref A.c_BadWord) "word" = some none
  vm_BadNumber : mg "BadNumber" = some (.ref A.c_BadNumber)
  ox_BadNumber : OexC K A.c_BadNumber
  oi_BadNumber : PySem.W.findIn K (.ref A.c_BadNumber) "__init__" = some (some (.ref A.f_BadNumber___init__))
  ot_BadNumber : PySem.W.typeIn K (.ref A.f_BadNumber___init__) = some (.type "function")
  xn_BadNumber_number : PySem.W.findIn K (.ref A.c_BadNumber) "number" = some none
  vm_BadCounts : mg "BadCounts" = some (.ref A.c_BadCounts)
  ox_BadCounts : OexC K A.c_BadCounts
  oi_BadCounts : PySem.W.findIn K (.ref A.c_BadCounts) "__init__" = some (some (.ref A.f_BadCounts___init__))
  ot_BadCounts : PySem.W.typeIn K (.ref A.f_BadCounts___init__) = some (.type "function")
  xn_BadCounts_at : PySem.W.findIn K (.ref A.c_BadCounts) "at" = some none
  m_law_source : mg "_law_source" = some (.ref A.f_law_source)
  k_law_source : PySem.W.keepIn K (.ref A.f_law_source) = true
  b_law_source : Binds K A.fd_law_source ["script"] []
  m_law_mixed : mg "_law_mixed" = some (.ref A.f_law_mixed)
  k_law_mixed : PySem.W.keepIn K (.ref A.f_law_mixed) = true
  b_law_mixed : Binds K A.fd_law_mixed ["cell", "count"] []
  m_law_draw : mg "_law_draw" = some (.ref A.f_law_draw)
  k_law_draw : PySem.W.keepIn K (.ref A.f_law_draw) = true
  b_law_draw : Binds K A.fd_law_draw ["source", "size"] []
  m_law_word : mg "_law_word" = some (.ref A.f_law_word)
  k_law_word : PySem.W.keepIn K (.ref A.f_law_word) = true
  b_law_word : Binds K A.fd_law_word ["source"] []
  m_law_number : mg "_law_number" = some (.ref A.f_law_number)
  k_law_number : PySem.W.keepIn K (.ref A.f_law_number) = true
  b_law_number : Binds K A.fd_law_number ["source"] []
  m_law_pairs : mg "_law_pairs" = some (.ref A.f_law_pairs)
  k_law_pairs : PySem.W.keepIn K (.ref A.f_law_pairs) = true
  b_law_pairs : Binds K A.fd_law_pairs ["source", "most"] []
  m_law_model : mg "_law_model" = some (.ref A.f_law_model)
  k_law_model : PySem.W.keepIn K (.ref A.f_law_model) = true
  b_law_model : Binds K A.fd_law_model ["pairs"] []
  m_is_word : mg "is_word" = some (.ref A.f_is_word)
  k_is_word : PySem.W.keepIn K (.ref A.f_is_word) = true
  b_is_word : Binds K A.fd_is_word ["value"] []
  b_BadWord___init__ : Binds K A.fd_BadWord___init__ ["self", "word"] []
  m_check_word : mg "_check_word" = some (.ref A.f_check_word)
  k_check_word : PySem.W.keepIn K (.ref A.f_check_word) = true
  b_check_word : Binds K A.fd_check_word ["word"] []
  m_is_number : mg "is_number" = some (.ref A.f_is_number)
  k_is_number : PySem.W.keepIn K (.ref A.f_is_number) = true
  b_is_number : Binds K A.fd_is_number ["value"] []
  m_is_short : mg "is_short" = some (.ref A.f_is_short)
  k_is_short : PySem.W.keepIn K (.ref A.f_is_short) = true
  b_is_short : Binds K A.fd_is_short ["value"] []
  b_BadNumber___init__ : Binds K A.fd_BadNumber___init__ ["self", "number"] []
  m_check_number : mg "_check_number" = some (.ref A.f_check_number)
  k_check_number : PySem.W.keepIn K (.ref A.f_check_number) = true
  b_check_number : Binds K A.fd_check_number ["number"] []
  m_counts_of : mg "_counts_of" = some (.ref A.f_counts_of)
  k_counts_of : PySem.W.keepIn K (.ref A.f_counts_of) = true
  b_counts_of : Binds K A.fd_counts_of ["pairs"] []
  b_BadCounts___init__ : Binds K A.fd_BadCounts___init__ ["self", "at"] []
  m_is_pair : mg "_is_pair" = some (.ref A.f_is_pair)
  k_is_pair : PySem.W.keepIn K (.ref A.f_is_pair) = true
  b_is_pair : Binds K A.fd_is_pair ["value"] []
  cm_Counts_of : ClX.CMet K A.c_Counts (.type "type") "of" A.p_Counts_of A.f_Counts_of
  b_Counts_of : Binds K A.fd_Counts_of ["cls", "pairs"] []
  m_law_told : mg "_law_told" = some (.ref A.f_law_told)
  k_law_told : PySem.W.keepIn K (.ref A.f_law_told) = true
  b_law_told : Binds K A.fd_law_told ["model"] []
  mt_Counts_words : Meth K A.c_Counts "words" A.f_Counts_words
  b_Counts_words : Binds K A.fd_Counts_words ["self"] []
  mt_Counts_pairs : Meth K A.c_Counts "pairs" A.f_Counts_pairs
  b_Counts_pairs : Binds K A.fd_Counts_pairs ["self"] []
  m_law_is_integer : mg "_law_is_integer" = some (.ref A.f_law_is_integer)
  k_law_is_integer : PySem.W.keepIn K (.ref A.f_law_is_integer) = true
  b_law_is_integer : Binds K A.fd_law_is_integer ["thing"] []
  m_law_equal : mg "_law_equal" = some (.ref A.f_law_equal)
  k_law_equal : PySem.W.keepIn K (.ref A.f_law_equal) = true
  b_law_equal : Binds K A.fd_law_equal ["counts", "model"] []
  m_law_commas : mg "_law_commas" = some (.ref A.f_law_commas)
  k_law_commas : PySem.W.keepIn K (.ref A.f_law_commas) = true
  b_law_commas : Binds K A.fd_law_commas ["number"] []
  m_law_line : mg "_law_line" = some (.ref A.f_law_line)
  k_law_line : PySem.W.keepIn K (.ref A.f_law_line) = true
  b_law_line : Binds K A.fd_law_line ["word", "number"] []
  mt_Counts_columns : Meth K A.c_Counts "columns" A.f_Counts_columns
  mt_Counts___repr__ : Meth K A.c_Counts "__repr__" A.f_Counts___repr__
  b_Counts___repr__ : Binds K A.fd_Counts___repr__ ["self"] []
  m_law : mg "law" = some (.ref A.f_law)
  k_law : PySem.W.keepIn K (.ref A.f_law) = true
  b_law : Binds K A.fd_law ["script"] []
  n_abs : mg "abs" = none
  n_all : mg "all" = none
  n_bool : mg "bool" = none
  n_enumerate : mg "enumerate" = none
  n_int : mg "int" = none
  n_isinstance : mg "isinstance" = none
  n_len : mg "len" = none
  n_list : mg "list" = none
  n_range : mg "range" = none
  n_repr : mg "repr" = none
  n_sorted : mg "sorted" = none
  n_str : mg "str" = none
  n_tuple : mg "tuple" = none
  vm_Counts : mg "Counts" = some (.ref A.c_Counts)
  kl_Counts : Kl K A.c_Counts ["_numbers"]
  ns_Counts : PySem.W.noSeq K A.c_Counts = true
  sf_Counts : PySem.W.selfFirst K A.c_Counts = true
  nf_Counts : PySem.W.notFirst K A.c_Counts (.ref A.c_Counts) = true
  ki_Counts : Ki K A.c_Counts
  mk_Counts : Mk K A.c_Counts A.f_Counts___init__
  r_Counts : ClX.CRead K A.c_Counts (.type "type")
  u_Counts___init__ : PySem.W.findCls K (.ref A.c_Counts) (.type "type") "__init__" = some (.val (.ref A.f_Counts___init__))
  kp_Counts___init__ : PySem.W.keepIn K (.ref A.f_Counts___init__) = true
  kit_Counts_Counts : PySem.W.kitOne K (.ref A.c_Counts) (.ref A.c_Counts) = some true
  e_LETTERS : ∃ u, mg "_LETTERS" = some u ∧ RelV (.str "abcdefghijklmnopqrstuvwxyz") u
  e_BEYOND : ∃ u, mg "_BEYOND" = some u ∧ RelV (.int 1000000000000000000000000000000) u
section
variable {P : Program} {w : World} {K : PySem.W.Frag} {mg : Str → Option Value} {base : Heap} {A : Ad}
/-! law_source -/
def sp_law_source (K : PySem.W.Frag) : Sp := fun vs H Q _ => ∃ (a : Addr) (ns : List Int) (fr : List Asn), vs = [.ref a] ∧ SqL K H a (ns.map V.int) ∧ ns.length ≤ 63 ∧ Sep fr H ∧ ∀ s H', Sep (Src s :: fr) H' → Q (.ref s) H'
theorem s_sq {l : List Asn} {H : Hp} {K : PySem.W.Frag} {Q : VK} {p : Addr} {xs : List V} {lo hi : Option Int} (hS : SqL K H p xs) (S : Sep l H) (k : ∀ d H', Sep (At d (.lst (cutV xs lo hi)) :: l) H' → Q (.ref d) H') : gSl K (.ref p) lo hi H Q := .inl ⟨p, xs, rfl, hS, fun d hd => k d _ (S.new hd)⟩
theorem cut_map {α : Type} (f : α → V) (as : List α) (lo hi : Option Int) : ∃ bs : List α, cutV (as.map f) lo hi = bs.map f ∧ bs.length ≤ as.length := by
  refine ⟨(as.drop (HT.sIx (as.map f).length 0 lo)).take (HT.sIx (as.map f).length (as.map f).length hi - HT.sIx (as.map f).length 0 lo), ?_, ?_⟩
  · unfold cutV
    rw [List.map_take, List.map_drop]
  · rw [List.length_take, List.length_drop]
    omega
theorem ok_law_source (T : Txt K mg A) : FnOk P w K mg base CX0 1 A.f_law_source A.fd_law_source ["script"] (sp_law_source K) := by
  refine T.F_law_source.ok sc_law_source (fun vs H Q E h => ?_) (fun cdv A' outer s0 H vs Q E hr h => ?_)
  · obtain ⟨c, n, fr, rfl, _⟩ := h
    rfl
  · obtain ⟨a, ns, fr, rfl, hS, hz, S, k⟩ := h
    refine ⟨_, (pss_one (ps_ret (pe_lst (pa_cons (pe_callTy (call_gList (K := K) rfl) (by rfl) T.n_list (by decide +kernel) (pa_cons (pe_slice (sl_g (K := K) rfl) (pv 0) po_none (po_some pe_int)) pa_nil)) (pa_cons pe_int (pa_cons pe_int (pa_cons pe_int pa_nil))))))), ?_⟩
    walk_at "v"
    refine s_sq hS S fun d H1 S1 => ?_
    obtain ⟨bs, e, hb⟩ := cut_map V.int ns none (some 63)
    rw [e] at S1
    walk_at "v"
    refine' c_listL (by assumption) ?hi ?_
    (case hi => walk_at "has")
    intro q H2 S2
    walk_at "v"
    refine k _ _ (src_close (L := q) (ns := bs) (a := 0) (b := 0) (c := 0) ?_ (by decide) (by decide) (by decide) ?_)
    · omega
    · rename_i p H3 S3
      exact S3.dr2
/-! law_mixed -/
def sp_law_mixed : Sp := fun vs H Q _ => ∃ c n : Int, vs = [.int c, .int n] ∧ ∀ r : Int, 0 ≤ r → Q (.int r) H
theorem c_mixed {c n : Int} {H : Hp} {Q : VK} {E : XK} (k : ∀ r : Int, 0 ≤ r → Q (.int r) H) : sp_law_mixed [.int c, .int n] H Q E := ⟨c, n, rfl, k⟩
local macro_rules | `(tactic| walk_at "v1") => `(tactic| ((with_reducible refine c_mixed ?_); intro _ _))
theorem ok_law_mixed (T : Txt K mg A) : FnOk P w K mg base CX0 1 A.f_law_mixed A.fd_law_mixed ["cell", "count"] (sp_law_mixed) := by
  refine T.F_law_mixed.ok sc_law_mixed (fun vs H Q E h => ?_) (fun cdv A' outer s0 H vs Q E hr h => ?_)
  · obtain ⟨c, n, rfl, _⟩ := h
    rfl
  · obtain ⟨c, n, rfl, k⟩ := h
    refine ⟨_, (pss_cons (ps_if (pt_cmpR (op_gEq (K := K) rfl hr.units) (pv 0) pe_int (nomark _)) (pss_one (ps_ret pe_int)) pss_nil)
      (pss_cons (ps_set (i := 2) sc_law_mixed.nd rfl (.inl rfl) (pe_op op_gMod (pe_callTy call_gInt (by rfl) T.n_int (by decide +kernel) (pa_cons (pe_op op_gAdd (pe_op op_gMul (pv 0) pe_int) (pe_op op_gMul (pv 1) pe_int)) pa_nil)) pe_int))
      (pss_one (ps_ret (pe_op op_gDiv (pe_op op_gMod (pe_callTy call_gInt (by rfl) T.n_int (by decide +kernel) (pa_cons (pe_op op_gAdd (pe_op op_gAdd (pe_op op_gMul (pv 2) pe_int) (pe_op op_gMul (pe_op op_gDiv (pv 2) pe_int) (pv 1))) pe_int) pa_nil)) pe_int) pe_int))))), ?_⟩
    walk_at "v"
    refine r_ifD (fun e => ?_) (fun e => ?_)
    · walk_at "v"
      exact k 0 (by decide)
    · walk_at "v"
      refine k _ ?_
      omega
/-! law_draw -/
local macro_rules | `(tactic| walk_at "srcE") => `(tactic| (first | omega | exact Int.ediv_nonneg (by omega) (by omega)))
def sp_law_draw : Sp := fun vs H Q _ => ∃ (s : Addr) (n : Int) (fr : List Asn), vs = [.ref s, .int n] ∧ 0 < n ∧ n < 10 ^ 40 ∧ Sep (Src s :: fr) H ∧ ∀ (r : Int) (H' : Hp), 0 ≤ r → r < n → Sep (Src s :: fr) H' → Q (.int r) H'
theorem c_draw {l : List Asn} {H : Hp} {i : Nat} {s : Addr} {n : Int} {Q : VK} {E : XK} (S : Sep l H) (e : l[i]? = some (Src s)) (h0 : 0 < n) (h1 : n < 10 ^ 40) (k : ∀ (r : Int) (H' : Hp), 0 ≤ r → r < n → Sep l H' → Q (.int r) H') : sp_law_draw [.ref s, .int n] H Q E :=
  ⟨s, n, _, rfl, h0, h1, S.pick e, fun r H' a b S' => k r H' a b (Sep.backS e S')⟩
theorem ok_law_draw (T : Txt K mg A) : FnOk P w K mg base CX0 2 A.f_law_draw A.fd_law_draw ["source", "size"] (sp_law_draw) := by
  refine T.F_law_draw.ok sc_law_draw (fun vs H Q E h => ?_) (fun cdv A' outer s0 H vs Q E hr h => ?_)
  · obtain ⟨c, n, fr, rfl, _⟩ := h
    rfl
  · obtain ⟨s, n, fr, rfl, n0, n1, S, k⟩ := h
    obtain ⟨L, ns, a, b, c, hz, a0, b0, c0, S⟩ := src_open S
    refine ⟨_, (pss_cons (ps_asg (pe_op op_gAdd (pe_ix (ix_g (K := K) rfl) (pv 0) pe_int (fun _ _ => rfl)) pe_int) (pg_sub (pv 0) pe_int set_list))
      (pss_cons (ps_if (PW.pt (pw_and (pt_cmpR (op_gEq (K := K) rfl hr.units) (pe_ix (ix_g (K := K) rfl) (pv 0) pe_int (fun _ _ => rfl)) pe_int (nomark _)) (pw_and1 (pt_cmpR op_gGt (pe_callB (call_gLen (K := K) rfl) (by rfl) T.n_len (by decide +kernel) (pa_cons (pe_ix (ix_g (K := K) rfl) (pv 0) pe_int (fun _ _ => rfl)) pa_nil)) pe_int (nomark _))))) (pss_cons (ps_set (i := 2) sc_law_draw.nd rfl (.inl rfl) (pe_ix (ix_g (K := K) rfl) (pv 0) pe_int (fun _ _ => rfl)))
      (pss_cons (ps_set (i := 3) sc_law_draw.nd rfl (.inl rfl) (pe_ix (ix_g (K := K) rfl) (pe_ix (ix_g (K := K) rfl) (pv 0) pe_int (fun _ _ => rfl)) (pe_op op_gMod (pe_callTy call_gInt (by rfl) T.n_int (by decide +kernel) (pa_cons (pv 2) pa_nil)) (pe_callB (call_gLen (K := K) rfl) (by rfl) T.n_len (by decide +kernel) (pa_cons (pe_ix (ix_g (K := K) rfl) (pv 0) pe_int (fun _ _ => rfl)) pa_nil))) (fun _ _ => rfl)))
      (pss_cons (ps_asg (pe_op op_gAdd (pv 2) pe_int) (pg_sub (pv 0) pe_int set_list))
      (pss_one (ps_if (PW.pt (pw_and (pt_cmpR op_gLt (pv 2) (pe_callB (call_gLen (K := K) rfl) (by rfl) T.n_len (by decide +kernel) (pa_cons (pe_ix (ix_g (K := K) rfl) (pv 0) pe_int (fun _ _ => rfl)) pa_nil)) (nomark _)) (pw_and1 (pt_cmpR op_gGe (pe_callB call_gAbs (by rfl) T.n_abs (by decide +kernel) (pa_cons (pv 3) pa_nil)) (pe_op op_gPow pe_int pe_int) (nomark _))))) (pss_one (ps_asg (pe_callB call_gAbs (by rfl) T.n_abs (by decide +kernel) (pa_cons (pv 3) pa_nil)) (pg_sub (pv 0) pe_int set_list))) (pss_one (ps_ret (pe_op op_gMod (pe_callTy call_gInt (by rfl) T.n_int (by decide +kernel) (pa_cons (pe_call (ok_law_mixed T) (hr.mono (by decide)) rfl T.m_law_mixed T.k_law_mixed T.b_law_mixed .nil pass0 (pa_cons (pv 3) (pa_cons (pe_ix (ix_g (K := K) rfl) (pv 0) pe_int (fun _ _ => rfl)) pa_nil))) pa_nil)) (pv 1))))))))) pss_nil)
      (pss_cons (ps_set (i := 4) sc_law_draw.nd rfl (.inl rfl) (pe_op op_gMod (pe_callTy call_gInt (by rfl) T.n_int (by decide +kernel) (pa_cons (pe_ix (ix_g (K := K) rfl) (pv 0) pe_int (fun _ _ => rfl)) pa_nil)) (pv 1)))
      (pss_cons (ps_asg (pe_op op_gDiv (pe_ix (ix_g (K := K) rfl) (pv 0) pe_int (fun _ _ => rfl)) (pv 1)) (pg_sub (pv 0) pe_int set_list))
      (pss_one (ps_ret (pv 4))))))), ?_⟩
    walk_at "v"
    rename_i H1 S1
    refine r_ifD (fun e0 => ?_) (fun e0 => ?_)
    · walk_at "v"
      refine r_ifD (fun e1 => ?_) (fun e1 => ?_)
      · walk_at "v"
        refine r_ifD (fun e2 => ?_) (fun e2 => ?_)
        · walk_at "v"
          refine r_ifD (fun e3 => ?_) (fun e3 => ?_)
          · walk_at "v"
            refine k _ _ (by assumption) (by assumption) (src_close hz ?_ ?_ ?_ (by assumption)) <;> walk_at "srcE"
          · walk_at "v"
            refine k _ _ (by assumption) (by assumption) (src_close hz ?_ ?_ ?_ (by assumption)) <;> walk_at "srcE"
        · walk_at "v"
          refine k _ _ (by assumption) (by assumption) (src_close hz ?_ ?_ ?_ (by assumption)) <;> walk_at "srcE"
      · walk_at "v"
        refine k _ _ (by assumption) (by assumption) (src_close hz ?_ ?_ ?_ (by assumption)) <;> walk_at "srcE"
    · walk_at "v"
      refine k _ _ (by assumption) (by assumption) (src_close hz ?_ ?_ ?_ (by assumption)) <;> walk_at "srcE"
local macro_rules | `(tactic| walk_at "v1") => `(tactic| ((with_reducible refine' c_draw (by assumption) ?hi ?h0 ?h1 ?_); (case hi => walk_at "has"); (case h0 => (first | decide | omega | assumption)); (case h1 => (first | decide | omega | assumption)); intro _ _ _ _ _))
/-! law_word -/
def sp_law_word : Sp := fun vs H Q _ => ∃ (s : Addr) (fr : List Asn), vs = [.ref s] ∧ Sep (Src s :: fr) H ∧ ∀ (w : Str) (H' : Hp), Wd w → Sep (Src s :: fr) H' → Q (.str w) H'
theorem c_word {l : List Asn} {H : Hp} {i : Nat} {s : Addr} {Q : VK} {E : XK} (S : Sep l H) (e : l[i]? = some (Src s)) (k : ∀ (w : Str) (H' : Hp), Wd w → Sep l H' → Q (.str w) H') : sp_law_word [.ref s] H Q E :=
  ⟨s, _, rfl, S.pick e, fun r H' a S' => k r H' a (Sep.backS e S')⟩
theorem ok_law_word (T : Txt K mg A) : FnOk P w K mg base CX0 3 A.f_law_word A.fd_law_word ["source"] (sp_law_word) := by
  refine T.F_law_word.ok sc_law_word (fun vs H Q E h => ?_) (fun cdv A' outer s0 H vs Q E hr h => ?_)
  · obtain ⟨s, fr, rfl, _⟩ := h
    rfl
  · obtain ⟨s, fr, rfl, S, k⟩ := h
    refine ⟨_, (pss_cons (ps_if (pt_cmpR (op_gEq (K := K) rfl hr.units) (pe_call (ok_law_draw T) (hr.mono (by decide)) rfl T.m_law_draw T.k_law_draw T.b_law_draw .nil pass0 (pa_cons (pv 0) (pa_cons pe_int pa_nil))) pe_int (nomark _)) (pss_cons (ps_set (i := 1) sc_law_word.nd rfl (.inl rfl) (pe_lst (pa_cons pe_str (pa_cons pe_str (pa_cons pe_str (pa_cons pe_str (pa_cons pe_str (pa_cons pe_str (pa_cons pe_str (pa_cons pe_str pa_nil))))))))))
      (pss_one (ps_ret (pe_ix (ix_g (K := K) rfl) (pv 1) (pe_call (ok_law_draw T) (hr.mono (by decide)) rfl T.m_law_draw T.k_law_draw T.b_law_draw .nil pass0 (pa_cons (pv 0) (pa_cons pe_int pa_nil))) (fun _ _ => rfl))))) pss_nil)
      (pss_cons (ps_set (i := 2) sc_law_word.nd rfl (.inl rfl) pe_str)
      (pss_cons (ps_for PassesOwn.never rfl (pi_range1 (by rfl) T.n_range (pa_cons (pe_op op_gAdd pe_int (pe_call (ok_law_draw T) (hr.mono (by decide)) rfl T.m_law_draw T.k_law_draw T.b_law_draw .nil pass0 (pa_cons (pv 0) (pa_cons pe_int pa_nil)))) pa_nil)) (pg_name (i := 3) sc_law_word.nd rfl (.inl rfl)) (pss_one (ps_set (i := 2) sc_law_word.nd rfl (.inl rfl) (pe_op op_gAdd (pv 2) (pe_ix (ix_g (K := K) rfl) pe_str (pe_call (ok_law_draw T) (hr.mono (by decide)) rfl T.m_law_draw T.k_law_draw T.b_law_draw .nil pass0 (pa_cons (pv 0) (pa_cons pe_int pa_nil))) (fun _ _ => rfl))))))
      (pss_one (ps_ret (pv 2)))))), ?_⟩
    walk_at "v"
    refine r_ifD (fun e0 => ?_) (fun e0 => ?_)
    · walk_at "v"
      rename_i p _ _ r H1 r0 r8 S1
      refine x_lstA S1 has0 r0 r8 fun v hv => ?_
      obtain ⟨w, rfl, hw⟩ : ∃ w, v = V.str w ∧ Wd w := by
        have hm := List.mem_of_getElem? hv
        simp only [List.mem_cons, List.not_mem_nil, or_false] at hm
        rcases hm with rfl | rfl | rfl | rfl | rfl | rfl | rfl | rfl <;> exact ⟨_, rfl, by decide +kernel⟩
      exact k w _ hw S1.tail
    · walk_at "v"
      try refine r_forR1 ?_
      walk_at "v"
      rename_i r H1 r0 r8 S1
      refine forR (by omega) (by omega) (fun i σ H => ∃ (w : Str) (a b : Option V), σ = [some (.ref s), a, some (.str w), b] ∧ w.length = i ∧ (∀ c ∈ w.cps.toList, c ∈ abc) ∧ Sep (Src s :: fr) H) ⟨_, _, _, rfl, rfl, fun c hc => (nomatch hc), S1⟩ ?_ ?_
      · rintro i σ H2 hi ⟨w, a, b, rfl, hl, hc, S2⟩
        walk_at "v"
        rename_i r' H3 r0' r8' S3
        refine x_strI (by decide +kernel) r0' (by have e := abc_len; unfold abc at e; omega) fun c hc' => ?_
        refine o_addS (Nat.le_trans (show w.length + 1 ≤ 1000 by omega) (by decide)) ?_
        walk_at "v"
        refine ⟨w ++ ⟨#[c]⟩, _, _, rfl, by rw [str_len_app, hl]; rfl, fun c' hm => ?_, S3⟩
        rw [str_app] at hm
        rcases List.mem_append.1 hm with hm | hm
        · exact hc c' hm
        · have e : c' = c := List.mem_singleton.1 hm
          rw [e]; exact hc'
      · rintro σ H2 ⟨w, a, b, rfl, hl, hc, S2⟩
        walk_at "v"
        exact k w _ ⟨by omega, by omega, hc⟩ S2
local macro_rules | `(tactic| walk_at "v1") => `(tactic| ((with_reducible refine' c_word (by assumption) ?hi ?_); (case hi => walk_at "has"); intro _ _ _ _))
/-! law_number -/
def sp_law_number : Sp := fun vs H Q _ => ∃ (s : Addr) (fr : List Asn), vs = [.ref s] ∧ Sep (Src s :: fr) H ∧ ∀ (n : Int) (H' : Hp), -(10 ^ 30) < n → n < 10 ^ 30 → Sep (Src s :: fr) H' → Q (.int n) H'
theorem c_number {l : List Asn} {H : Hp} {i : Nat} {s : Addr} {Q : VK} {E : XK} (S : Sep l H) (e : l[i]? = some (Src s)) (k : ∀ (n : Int) (H' : Hp), -(10 ^ 30) < n → n < 10 ^ 30 → Sep l H' → Q (.int n) H') : sp_law_number [.ref s] H Q E :=
  ⟨s, _, rfl, S.pick e, fun r H' a b S' => k r H' a b (Sep.backS e S')⟩
theorem ok_law_number (T : Txt K mg A) : FnOk P w K mg base CX0 3 A.f_law_number A.fd_law_number ["source"] (sp_law_number) := by
  refine T.F_law_number.ok sc_law_number (fun vs H Q E h => ?_) (fun cdv A' outer s0 H vs Q E hr h => ?_)
  · obtain ⟨s, fr, rfl, _⟩ := h
    rfl
  · obtain ⟨s, fr, rfl, S, k⟩ := h
    refine ⟨_, (pss_cons (ps_set (i := 1) sc_law_number.nd rfl (.inl rfl) (pe_call (ok_law_draw T) (hr.mono (by decide)) rfl T.m_law_draw T.k_law_draw T.b_law_draw .nil pass0 (pa_cons (pv 0) (pa_cons pe_int pa_nil))))
      (pss_cons (ps_if (pt_cmpR (op_gEq (K := K) rfl hr.units) (pv 1) pe_int (nomark _)) (pss_one (ps_ret (pe_op op_gSub (pe_call (ok_law_draw T) (hr.mono (by decide)) rfl T.m_law_draw T.k_law_draw T.b_law_draw .nil pass0 (pa_cons (pv 0) (pa_cons pe_int pa_nil))) pe_int))) pss_nil)
      (pss_cons (ps_if (pt_cmpR (op_gEq (K := K) rfl hr.units) (pv 1) pe_int (nomark _)) (pss_one (ps_ret (pe_op op_gSub (pe_call (ok_law_draw T) (hr.mono (by decide)) rfl T.m_law_draw T.k_law_draw T.b_law_draw .nil pass0 (pa_cons (pv 0) (pa_cons pe_int pa_nil))) pe_int))) pss_nil)
      (pss_cons (ps_set (i := 2) sc_law_number.nd rfl (.inl rfl) pe_int)
      (pss_cons (ps_for PassesOwn.never rfl (pi_range1 (by rfl) T.n_range (pa_cons pe_int pa_nil)) (pg_name (i := 3) sc_law_number.nd rfl (.inl rfl)) (pss_one (ps_set (i := 2) sc_law_number.nd rfl (.inl rfl) (pe_op op_gAdd (pe_op op_gMul (pv 2) (pe_op op_gPow pe_int pe_int)) (pe_call (ok_law_draw T) (hr.mono (by decide)) rfl T.m_law_draw T.k_law_draw T.b_law_draw .nil pass0 (pa_cons (pv 0) (pa_cons (pe_op op_gPow pe_int pe_int) pa_nil)))))))
      (pss_cons (ps_set (i := 2) sc_law_number.nd rfl (.inl rfl) (pe_op op_gMod (pe_callTy call_gInt (by rfl) T.n_int (by decide +kernel) (pa_cons (pv 2) pa_nil)) (pe_op op_gPow pe_int pe_int)))
      (pss_one (ps_ret (pe_ifExp (pt_cmpR (op_gEq (K := K) rfl hr.units) (pv 1) pe_int (nomark _)) (pv 2) (pe_un un_gNeg (pv 2))))))))))), ?_⟩
    walk_at "v"
    refine r_ifD (fun e0 => ?_) (fun e0 => ?_)
    · walk_at "v"
      exact k _ _ (by omega) (by omega) (by assumption)
    · walk_at "v"
      refine r_ifD (fun e1 => ?_) (fun e1 => ?_)
      · walk_at "v"
        exact k _ _ (by omega) (by omega) (by assumption)
      · walk_at "v"
        try refine r_forR1 ?_
        walk_at "v"
        rename_i r H1 r0 r8 S1
        refine forR (by omega) (by omega) (fun i σ H => ∃ (a : Option V) (n : Int), σ = [some (.ref s), some (.int r), some (.int n), a] ∧ Sep (Src s :: fr) H) ⟨_, _, rfl, S1⟩ ?_ ?_
        · rintro i σ H2 hi ⟨a, n, rfl, S2⟩
          walk_at "v"
          exact ⟨_, _, rfl, by assumption⟩
        · rintro σ H2 ⟨a, n, rfl, S2⟩
          walk_at "v"
          rename_i r2 _ h0 h1
          refine r_ifD (fun e2 => ?_) (fun e2 => ?_)
          · walk_at "v"
            exact k _ _ (by omega) (by omega) S2
          · walk_at "v"
            exact k _ _ (by omega) (by omega) S2
local macro_rules | `(tactic| walk_at "v1") => `(tactic| ((with_reducible refine' c_number (by assumption) ?hi ?_); (case hi => walk_at "has"); intro _ _ _ _ _))
/-! law_pairs -/
def sp_law_pairs : Sp := fun vs H Q _ => ∃ (s : Addr) (m : Int) (fr : List Asn), vs = [.ref s, .int m] ∧ 0 ≤ m ∧ m < 1000 ∧ Sep (Src s :: fr) H ∧ ∀ (a : Addr) (ps : List (Str × Int)) (H' : Hp), Gp ps → (ps.length : Int) ≤ m → Sep (LD a (pds ps) :: Src s :: fr) H' → Q (.ref a) H'
theorem c_pairs {l : List Asn} {H : Hp} {i : Nat} {s : Addr} {m : Int} {Q : VK} {E : XK} (S : Sep l H) (e : l[i]? = some (Src s)) (h0 : 0 ≤ m) (h1 : m < 1000) (k : ∀ (a : Addr) (ps : List (Str × Int)) (H' : Hp), Gp ps → (ps.length : Int) ≤ m → Sep (LD a (pds ps) :: l) H' → Q (.ref a) H') : sp_law_pairs [.ref s, .int m] H Q E :=
  ⟨s, m, _, rfl, h0, h1, S.pick e, fun a ps H' g b S' => k a ps H' g b (Sep.backS (i := i + 1) (l := LD a (pds ps) :: _) e S'.fr1)⟩
theorem ok_law_pairs (T : Txt K mg A) : FnOk P w K mg base CX0 4 A.f_law_pairs A.fd_law_pairs ["source", "most"] (sp_law_pairs) := by
  refine T.F_law_pairs.ok sc_law_pairs (fun vs H Q E h => ?_) (fun cdv A' outer s0 H vs Q E hr h => ?_)
  · obtain ⟨s, m, fr, rfl, _⟩ := h
    rfl
  · obtain ⟨s, m, fr, rfl, m0, m1, S, k⟩ := h
    refine ⟨_, (pss_cons (ps_set (i := 2) sc_law_pairs.nd rfl (.inl rfl) (pe_lst pa_nil))
      (pss_cons (ps_for PassesOwn.never rfl (pi_range1 (by rfl) T.n_range (pa_cons (pe_call (ok_law_draw T) (hr.mono (by decide)) rfl T.m_law_draw T.k_law_draw T.b_law_draw .nil pass0 (pa_cons (pv 0) (pa_cons (pe_op op_gAdd (pv 1) pe_int) pa_nil))) pa_nil)) (pg_name (i := 3) sc_law_pairs.nd rfl (.inl rfl)) (pss_cons (ps_set (i := 4) sc_law_pairs.nd rfl (.inl rfl) (pe_call (ok_law_word T) (hr.mono (by decide)) rfl T.m_law_word T.k_law_word T.b_law_word .nil pass0 (pa_cons (pv 0) pa_nil)))
      (pss_cut (ps_if (PW.pt (pw_and (pt_cmpR op_gGt (pe_callB (call_gLen (K := K) rfl) (by rfl) T.n_len (by decide +kernel) (pa_cons (pv 2) pa_nil)) pe_int (nomark _)) (pw_and1 (pt_cmpR (op_gEq (K := K) rfl hr.units) (pe_call (ok_law_draw T) (hr.mono (by decide)) rfl T.m_law_draw T.k_law_draw T.b_law_draw .nil pass0 (pa_cons (pv 0) (pa_cons pe_int pa_nil))) pe_int (nomark _))))) (pss_one (ps_set (i := 4) sc_law_pairs.nd rfl (.inl rfl) (pe_ix (ix_g (K := K) rfl) (pe_ix (ix_g (K := K) rfl) (pv 2) (pe_call (ok_law_draw T) (hr.mono (by decide)) rfl T.m_law_draw T.k_law_draw T.b_law_draw .nil pass0 (pa_cons (pv 0) (pa_cons (pe_callB (call_gLen (K := K) rfl) (by rfl) T.n_len (by decide +kernel) (pa_cons (pv 2) pa_nil)) pa_nil))) (fun _ _ => rfl)) pe_int (fun _ _ => rfl)))) pss_nil)
      (pss_one (ps_expr (pe_gBm (K := K) rfl PySem.F.plainAttrs_list PySem.F.slot_list_append PySem.F.type_list_append mt_append (pv 2) (pa_cons (pe_tup (pa_cons (pv 4) (pa_cons (pe_call (ok_law_number T) (hr.mono (by decide)) rfl T.m_law_number T.k_law_number T.b_law_number .nil pass0 (pa_cons (pv 0) pa_nil)) pa_nil))) pa_nil)))))))
      (pss_one (ps_ret (pv 2))))), ?_⟩
    walk_at "v"
    try refine r_forR1 ?_
    walk_at "v"
    rename_i a H1 S0 r H2 r0 r1 S1
    refine forR (by omega) (by omega) (fun i σ H => ∃ (vs : List V) (ps : List (Str × Int)) (b c : Option V), σ = [some (.ref s), some (.int m), some (.ref a), b, c] ∧ Gp ps ∧ vs.length = i ∧ ps.length = i ∧ Sep (At a (.lst vs) :: DVs vs (pds ps) :: Src s :: fr) H) ⟨[], [], _, _, rfl, fun x hx => (nomatch hx), rfl, rfl, (S1.addDs .nil).fr1⟩ ?_ ?_
    · rintro i σ H3 hi ⟨vs, ps, b, c, rfl, g, hv, hp, S3⟩
      walk_at "v"
      rename_i w H4 hw S4
      refine r_cut (fun σ' H' => ∃ w : Str, σ' = [some (.ref s), some (.int m), some (.ref a), some (.int (i : Int)), some (.str w)] ∧ Wd w ∧ Sep (At a (.lst vs) :: DVs vs (pds ps) :: Src s :: fr) H') ?_ ?_
      · walk_at "v"
        refine r_ifD (fun e0 => ?_) (fun e0 => ?_)
        · walk_at "v"
          refine r_ifD (fun e1 => ?_) (fun e1 => ?_)
          · walk_at "v"
            rename_i z H6 z0 z1 S6
            refine x_lstA S6 has0 z0 z1 fun v ev => ?_
            obtain ⟨q, x, ex, rfl, hq⟩ := ps_get (S6.dvs (i := 1) rfl) ev
            have S7 := S6.addT hq
            clear S6
            walk_at "v"
            exact ⟨_, rfl, (g x (List.mem_of_getElem? ex)).1, S7.tail⟩
          · walk_at "v"
            exact ⟨_, rfl, hw, by assumption⟩
        · walk_at "v"
          exact ⟨_, rfl, hw, by assumption⟩
      · rintro σ' H5 ⟨w, rfl, hw, S5⟩
        walk_at "v"
        rename_i n _ n0 n1 _ q _ S8 H9 S9
        refine ⟨vs ++ [.ref q], ps ++ [(w, n)], _, _, rfl, fun x hx => ?_, by rw [List.length_append, hv]; rfl, by rw [List.length_append, hp]; rfl, ?_⟩
        · rcases List.mem_append.1 hx with hx | hx
          · exact g x hx
          · rw [List.mem_singleton.1 hx]
            exact ⟨hw, n0, n1⟩
        · have h1 := IsDs.snoc (pair_isD (S9.tp (i := 0) rfl)) (S9.dvs (i := 2) rfl)
          have e : pds ps ++ [pd (w, n)] = pds (ps ++ [(w, n)]) := by simp
          rw [e] at h1
          exact ((S9.tail.dr1).addDs h1).fr1
    · rintro σ H3 ⟨vs, ps, b, c, rfl, g, hv, hp, S3⟩
      walk_at "v"
      refine k a ps _ g (by omega) (ld_close (S3.dvs (i := 1) rfl) S3.dr1)
/-! law_model -/
def sp_law_model : Sp := fun vs H Q _ => ∃ (a : Addr) (ps : List (Str × Int)) (fr : List Asn), vs = [.ref a] ∧ ps.length ≤ 1000 ∧ Sep (LD a (pds ps) :: fr) H ∧ ∀ (d : Addr) (m : List (Str × Int)) (H' : Hp), (keys m).Nodup → m.length ≤ ps.length → (∀ w, w ∈ keys m → w ∈ keys ps) → (∀ w, num m w = psum ps w) → Sep (At d (.dK (mp m)) :: LD a (pds ps) :: fr) H' → Q (.ref d) H'
theorem c_model {l : List Asn} {H : Hp} {i : Nat} {a : Addr} {ps : List (Str × Int)} {Q : VK} {E : XK} (S : Sep l H) (e : l[i]? = some (LD a (pds ps))) (h : ps.length ≤ 1000) (k : ∀ (d : Addr) (m : List (Str × Int)) (H' : Hp), (keys m).Nodup → m.length ≤ ps.length → (∀ w, w ∈ keys m → w ∈ keys ps) → (∀ w, num m w = psum ps w) → Sep (At d (.dK (mp m)) :: l) H' → Q (.ref d) H') : sp_law_model [.ref a] H Q E :=
  ⟨a, ps, _, rfl, h, S.pick e, fun d m H' h1 h2 h3 h4 S' => k d m H' h1 h2 h3 h4 (Sep.backS (i := i + 1) (l := At d (.dK (mp m)) :: _) e S'.fr1)⟩
theorem ok_law_model (T : Txt K mg A) : FnOk P w K mg base CX0 1 A.f_law_model A.fd_law_model ["pairs"] (sp_law_model) := by
  refine T.F_law_model.ok sc_law_model (fun vs H Q E h => ?_) (fun cdv A' outer s0 H vs Q E hr h => ?_)
  · obtain ⟨s, m, fr, rfl, _⟩ := h
    rfl
  · obtain ⟨a, ps, fr, rfl, hz, S, k⟩ := h
    obtain ⟨vs, hv, S1⟩ := ld_open S
    clear S
    refine ⟨_, (pss_cons (ps_set (i := 1) sc_law_model.nd rfl (.inl rfl) pe_dnewK)
      (pss_cons (ps_for PassesOwn.never rfl (pi_gList (K := K) rfl (pv 0)) (pg_gTup (K := K) rfl rfl (pgs_cons (pg_name (i := 2) sc_law_model.nd rfl (.inl rfl)) (pgs_cons (pg_name (i := 3) sc_law_model.nd rfl (.inl rfl)) pgs_nil))) (pss_one (ps_dput (hu_of hr) (pv 1) (pv 2) (pe_op op_gAdd (pe_dget2 (hu_of hr) (pv 1) (pv 2) pe_int ⟨by rfl, by rfl, by rfl, by rfl⟩) (pv 3)) rfl)))
      (pss_one (ps_ret (pv 1))))), ?_⟩
    walk_at "v"
    rename_i d H1 S2
    refine forL S2 (hasS has0) (fun i σ H => ∃ (m : List (Str × Int)) (b c : Option V), σ = [some (.ref a), some (.ref d), b, c] ∧ (keys m).Nodup ∧ m.length ≤ i ∧ (∀ w, w ∈ keys m → w ∈ keys (ps.take i)) ∧ (∀ w, num m w = psum (ps.take i) w) ∧ Sep (At d (.dK (mp m)) :: At a (.lst vs) :: DVs vs (pds ps) :: fr) H)
      ⟨[], _, _, rfl, List.nodup_nil, Nat.le_refl _, fun _ h => (nomatch h), fun _ => rfl, S2⟩ (fun i σ H ⟨m, b, c, _, _, _, _, _, S⟩ => S.at (i := 1) rfl) ?_ ?_
    · rintro i x σ H3 hx ⟨m, b, c, rfl, hn, hl, hk, hs, S3⟩
      obtain ⟨q, y, ey, rfl, hq⟩ := ps_get (S3.dvs (i := 2) rfl) hx
      have S4 := S3.addT hq
      have hi := get_lt ey
      clear S3
      walk_at "v"
      rename_i H5 S5
      have et : ps.take (i + 1) = ps.take i ++ [y] := by rw [List.take_add_one, ey]; rfl
      refine ⟨_, _, _, rfl, nodup_put hn _ _, Nat.le_trans (len_put _ _ _) (by omega), fun w hw => ?_, fun w => ?_, S5.tail⟩
      · rw [et]
        unfold keys
        rw [List.map_append]
        rcases mem_put hw with hw | hw
        · rw [hw]
          exact List.mem_append_right _ (by exact List.mem_singleton.2 rfl)
        · exact List.mem_append_left _ (hk w hw)
      · rw [num_put, et, psum_app, hs, hs]
        show _ = _ + ((if y.1 = w then y.2 else 0) + 0)
        by_cases h : w = y.1
        · rw [if_pos h, if_pos h.symm, h]; omega
        · rw [if_neg h, if_neg (fun z => h z.symm)]; omega
    · rintro σ H3 ⟨m, b, c, rfl, hn, hl, hk, hs, S3⟩
      walk_at "v"
      have e : ps.take vs.length = ps := List.take_of_length_le (by rw [ps_len hv]; exact Nat.le_refl _)
      rw [e] at hk hs
      exact k d m _ hn (by rw [← ps_len hv]; exact hl) hk hs (ld_close (S3.dvs (i := 2) rfl) (S3.dr2.fr1)).fr1
local macro_rules | `(tactic| walk_at "v1") => `(tactic| ((with_reducible refine' c_model (by assumption) ?hi ?hz ?_); (case hi => walk_at "has"); (case hz => omega); intro _ _ _ _ _ _ _ _))
/-! is_word -/
def isWd (w : Str) : Bool := decide (Wd w)
def sp_is_word (K : PySem.W.Frag) : Sp := fun vs H Q _ => ∃ (x : V) (fr : List Asn), vs = [x] ∧ Sep fr H ∧
  ((∃ w : Str, x = .str w ∧ w.length ≤ 3000 ∧ ∀ H', Sep fr H' → Q (.bl (decide (Wd w))) H') ∨ ∃ t, TyX K H x t ∧ PySem.W.kitOne K t (.type "str") = some false ∧ Q (.bl false) H)
theorem c_is_word {K : PySem.W.Frag} {l : List Asn} {H : Hp} {w : Str} {Q : VK} {E : XK} (S : Sep l H) (hz : w.length ≤ 3000) (k : ∀ H', Sep l H' → Q (.bl (decide (Wd w))) H') : sp_is_word K [.str w] H Q E :=
  ⟨_, l, rfl, S, .inl ⟨w, rfl, hz, k⟩⟩
theorem c_is_wordN {K : PySem.W.Frag} {l : List Asn} {H : Hp} {x : V} {t : Value} {Q : VK} {E : XK} (S : Sep l H) (hx : TyX K H x t) (ht : PySem.W.kitOne K t (.type "str") = some false) (q : Q (.bl false) H) : sp_is_word K [x] H Q E :=
  ⟨_, l, rfl, S, .inr ⟨t, hx, ht, q⟩⟩
theorem ok_is_word (T : Txt K mg A) : FnOk P w K mg base CX0 1 A.f_is_word A.fd_is_word ["value"] (sp_is_word K) := by
  refine T.F_is_word.ok sc_is_word (fun vs H Q E h => ?_) (fun cdv A' outer s0 H vs Q E hr h => ?_)
  · obtain ⟨x, fr, rfl, _⟩ := h
    rfl
  · obtain ⟨x, fr, rfl, S, ⟨w, rfl, hz, k⟩ | ⟨t, hx, ht, q⟩⟩ := h
    · refine ⟨_, (pss_cons (ps_if (PW.pt (pw_or (pt_not (pt_val (pe_callB (call_gIsi (K := K) rfl) (by rfl) T.n_isinstance (by decide +kernel) (pa_cons (pv 0) (pa_cons (pe_bltn (v := .ty "str") (by rfl) T.n_str (by decide +kernel) rfl) pa_nil))))) (pw_or1 (pt_not (pt_chain op_gLe op_gLe pe_int (pe_callB (call_gLen (K := K) rfl) (by rfl) T.n_len (by decide +kernel) (pa_cons (pv 0) pa_nil)) pe_int))))) (pss_one (ps_ret pe_bl)) pss_nil)
      (pss_one (ps_ret (pe_callB (call_gAll (K := K) rfl rfl) (by rfl) T.n_all (by decide +kernel) (pa_cons (pe_lc (own := [("letter", 1)]) (g := (gName 1)) rfl sc_is_word.nd (pi_str (pv 0)) (blkOk_by (N := ["value", "letter"]) (sc := defScope s_is_word) (by decide +kernel)) (fun _ _ _ _ _ => (pg_name (i := 1) sc_is_word.nd rfl (.inl rfl))) (fun _ _ _ _ _ => pts_nil) (fun _ _ _ _ _ => (pe_cmpR (op_gIn (K := K) rfl) (pv 1) (pe_globE rfl T.e_LETTERS) (by rfl)))) pa_nil))))), ?_⟩
      walk_at "v"
      refine c_lenS (Nat.le_trans hz (by decide)) ?_
      walk_at "v"
      refine r_ifD (fun e0 => ?_) (fun e0 => ?_)
      · walk_at "v"
        refine r_ifN (fun e1 => ?_) (fun e1 => ?_)
        · walk_at "v"
          have hn : ¬ Wd w := fun z => e1 (by have := z.2.1; omega)
          rw [decide_eq_false hn] at k
          exact k _ S
        · walk_at "v"
          refine lcS S (fun D i H' => Sep (At D (.lst (((w.cps.toList.take i).map fun c => decide (c ∈ abc)).map V.bl)) :: fr) H') (fun D H' S' => S') ?_ ?_
          · intro D i c H1 hc S1
            have hc' : w.cps.toList[i]? = some c := by rw [Array.getElem?_toList]; exact hc
            have hi := get_lt hc'
            have hl : w.cps.toList.length = w.length := by simp [Str.length]
            refine lc_turn ?_
            walk_at "v"
            rename_i S2
            rw [take_snoc hc', List.map_append, List.map_append]
            exact S2
          · intro D H1 S1
            walk_at "v"
            have e : ((w.cps.toList.take w.cps.size).map fun c => decide (c ∈ abc)).all id = decide (Wd w) := by
              have hl : w.cps.toList.length = w.length := by simp [Str.length]
              have hz : w.cps.size = w.cps.toList.length := by simp
              rw [hz, List.take_length]
              by_cases hw : Wd w
              · rw [decide_eq_true hw, List.all_map, List.all_eq_true]
                exact fun c hc => decide_eq_true (hw.2.2 c hc)
              · rw [decide_eq_false hw, List.all_map]
                refine Bool.eq_false_iff.2 fun z => hw ⟨by omega, by omega, fun c hc => ?_⟩
                exact of_decide_eq_true (List.all_eq_true.1 z c hc)
            rw [e]
            exact k _ S1.tail
      · walk_at "v"
        have hn : ¬ Wd w := fun z => e0 (by have := z.1; omega)
        rw [decide_eq_false hn] at k
        exact k _ S
    · refine ⟨_, (pss_cons (ps_if (PW.pt (pw_or (pt_not (pt_val (pe_callB (call_gIsi (K := K) rfl) (by rfl) T.n_isinstance (by decide +kernel) (pa_cons (pv 0) (pa_cons (pe_bltn (v := .ty "str") (by rfl) T.n_str (by decide +kernel) rfl) pa_nil))))) (pw_or1 (pt_not (pt_chain op_gLe op_gLe pe_int (pe_callB (call_gLen (K := K) rfl) (by rfl) T.n_len (by decide +kernel) (pa_cons (pv 0) pa_nil)) pe_int))))) (pss_one (ps_ret pe_bl)) pss_nil)
      (pss_one (ps_ret (pe_callB (call_gAll (K := K) rfl rfl) (by rfl) T.n_all (by decide +kernel) (pa_cons (pe_lc (own := [("letter", 1)]) (g := (gName 1)) rfl sc_is_word.nd (pi_str (pv 0)) (blkOk_by (N := ["value", "letter"]) (sc := defScope s_is_word) (by decide +kernel)) (fun _ _ _ _ _ => (pg_name (i := 1) sc_is_word.nd rfl (.inl rfl))) (fun _ _ _ _ _ => pts_nil) (fun _ _ _ _ _ => (pe_cmpR (op_gIn (K := K) rfl) (pv 1) (pe_globE rfl T.e_LETTERS) (by rfl)))) pa_nil))))), ?_⟩
      walk_at "v"
      refine i_one (.ty "str") hx ht ?_
      walk_at "v"
      exact q
local macro_rules | `(tactic| walk_at "v1") => `(tactic| ((with_reducible refine' c_is_word (by assumption) ?hz ?_); (case hz => (first | assumption | omega)); intro _ _))
/-! BadWord___init__ -/
abbrev sp_BadWord___init__ (K : PySem.W.Frag) : Sp := sp_exi K "word"
theorem ok_BadWord___init__ (T : Txt K mg A) : FnOk P w K mg base CX0 1 A.f_BadWord___init__ A.fd_BadWord___init__ ["self", "word"] (sp_BadWord___init__ K) := by
  refine T.F_BadWord___init__.ok sc_BadWord___init__ (fun vs H Q E h => ?_) (fun cdv A' outer s0 H vs Q E hr h => ?_)
  · obtain ⟨a, C, x, rfl, _⟩ := h
    rfl
  · obtain ⟨a, C, x, rfl, hT, hn, ha, k⟩ := h
    refine ⟨_, (pss_one (ps_gOst (K := K) rfl (pv 0) (pv 1))), ?_⟩
    walk_at "v"
    exact ⟨a, C, rfl, hT, hn, .inl ⟨ha, fun dx h1 h2 => k dx h1 h2⟩⟩
/-! check_word -/
def sp_check_word (K : PySem.W.Frag) : Sp := fun vs H Q _ => ∃ (w : Str) (fr : List Asn), vs = [.str w] ∧ Wd w ∧ Sep fr H ∧ ∀ H', Sep fr H' → Q .non H'
theorem c_check_word {K : PySem.W.Frag} {l : List Asn} {H : Hp} {w : Str} {Q : VK} {E : XK} (S : Sep l H) (hw : Wd w) (k : ∀ H', Sep l H' → Q .non H') : sp_check_word K [.str w] H Q E := ⟨w, l, rfl, hw, S, k⟩
theorem ok_check_word (T : Txt K mg A) : FnOk P w K mg base CX0 3 A.f_check_word A.fd_check_word ["word"] (sp_check_word K) := by
  refine T.F_check_word.ok sc_check_word (fun vs H Q E h => ?_) (fun cdv A' outer s0 H vs Q E hr h => ?_)
  · obtain ⟨w, fr, rfl, _⟩ := h
    rfl
  · obtain ⟨w, fr, rfl, hw, S, k⟩ := h
    have hz : w.length ≤ 3000 := by have := hw.2.1; omega
    refine ⟨_, (pss_one (ps_if (pt_not (pt_val (pe_call (ok_is_word T) (hr.mono (by decide)) rfl T.m_is_word T.k_is_word T.b_is_word .nil pass0 (pa_cons (pv 0) pa_nil)))) (pss_one ps_never) pss_nil)), ?_⟩
    walk_at "v"
    exact k _ (by assumption)
local macro_rules | `(tactic| walk_at "v1") => `(tactic| ((with_reducible refine' c_check_word (by assumption) ?hw ?_); (case hw => assumption); intro _ _))
/-! is_number -/
def sp_is_number (K : PySem.W.Frag) : Sp := fun vs H Q _ => ∃ (x : V), vs = [x] ∧
  ((∃ n : Int, x = .int n ∧ Q (.bl true) H) ∨ (∃ b : Bool, x = .bl b ∧ Q (.bl false) H) ∨ ∃ t, TyX K H x t ∧ PySem.W.kitOne K t (.type "int") = some false ∧ Q (.bl false) H)
theorem c_is_number {K : PySem.W.Frag} {H : Hp} {n : Int} {Q : VK} {E : XK} (q : Q (.bl true) H) : sp_is_number K [.int n] H Q E := ⟨_, rfl, .inl ⟨n, rfl, q⟩⟩
theorem c_is_numberB {K : PySem.W.Frag} {H : Hp} {b : Bool} {Q : VK} {E : XK} (q : Q (.bl false) H) : sp_is_number K [.bl b] H Q E := ⟨_, rfl, .inr (.inl ⟨b, rfl, q⟩)⟩
theorem c_is_numberN {K : PySem.W.Frag} {H : Hp} {x : V} {t : Value} {Q : VK} {E : XK} (hx : TyX K H x t) (ht : PySem.W.kitOne K t (.type "int") = some false) (q : Q (.bl false) H) : sp_is_number K [x] H Q E := ⟨_, rfl, .inr (.inr ⟨t, hx, ht, q⟩)⟩
theorem ok_is_number (T : Txt K mg A) : FnOk P w K mg base CX0 1 A.f_is_number A.fd_is_number ["value"] (sp_is_number K) := by
  refine T.F_is_number.ok sc_is_number (fun vs H Q E h => ?_) (fun cdv A' outer s0 H vs Q E hr h => ?_)
  · obtain ⟨x, rfl, _⟩ := h
    rfl
  · obtain ⟨x, rfl, ⟨n, rfl, q⟩ | ⟨b, rfl, q⟩ | ⟨t, hx, ht, q⟩⟩ := h
    · refine ⟨_, (pss_one (ps_ret (pe_and (pe_callB (call_gIsi (K := K) rfl) (by rfl) T.n_isinstance (by decide +kernel) (pa_cons (pv 0) (pa_cons (pe_bltn (v := .ty "int") (by rfl) T.n_int (by decide +kernel) rfl) pa_nil))) (pe_one (pe_not (pe_callB (call_gIsi (K := K) rfl) (by rfl) T.n_isinstance (by decide +kernel) (pa_cons (pv 0) (pa_cons (pe_bltn (v := .ty "bool") (by rfl) T.n_bool (by decide +kernel) rfl) pa_nil)))))))), ?_⟩
      walk_at "v"
      exact q
    · refine ⟨_, (pss_one (ps_ret (pe_and (pe_callB (call_gIsi (K := K) rfl) (by rfl) T.n_isinstance (by decide +kernel) (pa_cons (pv 0) (pa_cons (pe_bltn (v := .ty "int") (by rfl) T.n_int (by decide +kernel) rfl) pa_nil))) (pe_one (pe_not (pe_callB (call_gIsi (K := K) rfl) (by rfl) T.n_isinstance (by decide +kernel) (pa_cons (pv 0) (pa_cons (pe_bltn (v := .ty "bool") (by rfl) T.n_bool (by decide +kernel) rfl) pa_nil)))))))), ?_⟩
      walk_at "v"
      exact q
    · refine ⟨_, (pss_one (ps_ret (pe_and (pe_callB (call_gIsi (K := K) rfl) (by rfl) T.n_isinstance (by decide +kernel) (pa_cons (pv 0) (pa_cons (pe_bltn (v := .ty "int") (by rfl) T.n_int (by decide +kernel) rfl) pa_nil))) (pe_one (pe_not (pe_callB (call_gIsi (K := K) rfl) (by rfl) T.n_isinstance (by decide +kernel) (pa_cons (pv 0) (pa_cons (pe_bltn (v := .ty "bool") (by rfl) T.n_bool (by decide +kernel) rfl) pa_nil)))))))), ?_⟩
      walk_at "v"
      refine i_one (.ty "int") hx ht ?_
      walk_at "v"
      exact q
local macro_rules | `(tactic| walk_at "v1") => `(tactic| (first | with_reducible refine c_is_number ?_ | with_reducible refine c_is_numberB ?_))
/-! is_short -/
def sp_is_short (K : PySem.W.Frag) : Sp := fun vs H Q _ => ∃ x : V, vs = [x] ∧ ((∃ n : Int, x = .int n ∧ Q (.bl (decide (-(10 ^ 30) < n ∧ n < 10 ^ 30))) H) ∨ (∃ b : Bool, x = .bl b ∧ Q (.bl false) H) ∨ ∃ t, TyX K H x t ∧ PySem.W.kitOne K t (.type "int") = some false ∧ Q (.bl false) H)
theorem c_is_short {K : PySem.W.Frag} {H : Hp} {n : Int} {Q : VK} {E : XK} (q : Q (.bl (decide (-(10 ^ 30) < n ∧ n < 10 ^ 30))) H) : sp_is_short K [.int n] H Q E := ⟨_, rfl, .inl ⟨n, rfl, q⟩⟩
theorem c_is_shortB {K : PySem.W.Frag} {H : Hp} {b : Bool} {Q : VK} {E : XK} (q : Q (.bl false) H) : sp_is_short K [.bl b] H Q E := ⟨_, rfl, .inr (.inl ⟨b, rfl, q⟩)⟩
theorem c_is_shortN {K : PySem.W.Frag} {H : Hp} {x : V} {t : Value} {Q : VK} {E : XK} (hx : TyX K H x t) (ht : PySem.W.kitOne K t (.type "int") = some false) (q : Q (.bl false) H) : sp_is_short K [x] H Q E := ⟨_, rfl, .inr (.inr ⟨t, hx, ht, q⟩)⟩
theorem ok_is_short (T : Txt K mg A) : FnOk P w K mg base CX0 2 A.f_is_short A.fd_is_short ["value"] (sp_is_short K) := by
  refine T.F_is_short.ok sc_is_short (fun vs H Q E h => ?_) (fun cdv A' outer s0 H vs Q E hr h => ?_)
  · obtain ⟨n, rfl, _⟩ := h
    rfl
  · obtain ⟨x, rfl, ⟨n, rfl, q⟩ | ⟨b, rfl, q⟩ | ⟨t, hx, ht, q⟩⟩ := h
    · refine ⟨_, (pss_one (ps_ret (pe_and (pe_call (ok_is_number T) (hr.mono (by decide)) rfl T.m_is_number T.k_is_number T.b_is_number .nil pass0 (pa_cons (pv 0) pa_nil)) (pe_one (pe_chain op_gLt op_gLt (pe_un un_gNeg (pe_globE rfl T.e_BEYOND)) (pv 0) (pe_globE rfl T.e_BEYOND)))))), ?_⟩
      walk_at "v"
      refine r_ifD (fun e0 => ?_) (fun e0 => ?_)
      · walk_at "v"
        by_cases e1 : n < 1000000000000000000000000000000
        · rw [decide_eq_true e1]
          rw [decide_eq_true (show -(10 ^ 30) < n ∧ n < 10 ^ 30 from ⟨by omega, by omega⟩)] at q
          exact q
        · rw [decide_eq_false e1]
          rw [decide_eq_false (show ¬ (-(10 ^ 30) < n ∧ n < 10 ^ 30) from fun z => e1 (by omega))] at q
          exact q
      · rw [decide_eq_false (show ¬ (-(10 ^ 30) < n ∧ n < 10 ^ 30) from fun z => e0 (by omega))] at q
        exact q
    · refine ⟨_, (pss_one (ps_ret (pe_and (pe_call (ok_is_number T) (hr.mono (by decide)) rfl T.m_is_number T.k_is_number T.b_is_number .nil pass0 (pa_cons (pv 0) pa_nil)) (pe_one (pe_chain op_gLt op_gLt (pe_un un_gNeg (pe_globE rfl T.e_BEYOND)) (pv 0) (pe_globE rfl T.e_BEYOND)))))), ?_⟩
      walk_at "v"
      exact q
    · refine ⟨_, (pss_one (ps_ret (pe_and (pe_call (ok_is_number T) (hr.mono (by decide)) rfl T.m_is_number T.k_is_number T.b_is_number .nil pass0 (pa_cons (pv 0) pa_nil)) (pe_one (pe_chain op_gLt op_gLt (pe_un un_gNeg (pe_globE rfl T.e_BEYOND)) (pv 0) (pe_globE rfl T.e_BEYOND)))))), ?_⟩
      walk_at "v"
      refine c_is_numberN hx ht ?_
      walk_at "v"
      exact q
local macro_rules | `(tactic| walk_at "v1") => `(tactic| (with_reducible refine c_is_short ?_))
/-! BadNumber___init__ -/
abbrev sp_BadNumber___init__ (K : PySem.W.Frag) : Sp := sp_exi K "number"
theorem ok_BadNumber___init__ (T : Txt K mg A) : FnOk P w K mg base CX0 1 A.f_BadNumber___init__ A.fd_BadNumber___init__ ["self", "number"] (sp_BadNumber___init__ K) := by
  refine T.F_BadNumber___init__.ok sc_BadNumber___init__ (fun vs H Q E h => ?_) (fun cdv A' outer s0 H vs Q E hr h => ?_)
  · obtain ⟨a, C, x, rfl, _⟩ := h
    rfl
  · obtain ⟨a, C, x, rfl, hT, hn, ha, k⟩ := h
    refine ⟨_, (pss_one (ps_gOst (K := K) rfl (pv 0) (pv 1))), ?_⟩
    walk_at "v"
    exact ⟨a, C, rfl, hT, hn, .inl ⟨ha, fun dx h1 h2 => k dx h1 h2⟩⟩
/-! check_number -/
def sp_check_number (K : PySem.W.Frag) : Sp := fun vs H Q _ => ∃ n : Int, vs = [.int n] ∧ (-(10 ^ 30) < n ∧ n < 10 ^ 30) ∧ Q .non H
theorem c_check_number {K : PySem.W.Frag} {H : Hp} {n : Int} {Q : VK} {E : XK} (hb : -(10 ^ 30) < n ∧ n < 10 ^ 30) (q : Q .non H) : sp_check_number K [.int n] H Q E := ⟨n, rfl, hb, q⟩
theorem ok_check_number (T : Txt K mg A) : FnOk P w K mg base CX0 3 A.f_check_number A.fd_check_number ["number"] (sp_check_number K) := by
  refine T.F_check_number.ok sc_check_number (fun vs H Q E h => ?_) (fun cdv A' outer s0 H vs Q E hr h => ?_)
  · obtain ⟨n, rfl, _⟩ := h
    rfl
  · obtain ⟨n, rfl, hb, q⟩ := h
    refine ⟨_, (pss_one (ps_if (pt_not (pt_val (pe_call (ok_is_short T) (hr.mono (by decide)) rfl T.m_is_short T.k_is_short T.b_is_short .nil pass0 (pa_cons (pv 0) pa_nil)))) (pss_one ps_never) pss_nil)), ?_⟩
    walk_at "v"
    exact q
local macro_rules | `(tactic| walk_at "v1") => `(tactic| ((with_reducible refine c_check_number ?hb ?_); (case hb => (first | assumption | (constructor <;> omega)))))
/-- not an integer of at most thirty digits: another scalar -/
def NoShort (x : V) : Prop := (∃ n : Int, x = .int n ∧ ¬ (-(10 ^ 30) < n ∧ n < 10 ^ 30)) ∨ (∃ b, x = .bl b) ∨ x = .non ∨ ∃ z, x = .str z
def spX_check_number (K : PySem.W.Frag) (A : Ad) : Sp := fun vs H Q E => ∃ x : V, vs = [x] ∧ ((∃ n : Int, x = .int n ∧ (-(10 ^ 30) < n ∧ n < 10 ^ 30) ∧ Q .non H) ∨ (NoShort x ∧ ∃ fr, Sep fr H ∧ ∀ d H', Sep (At d (.xd [("number", x)]) :: fr) H' → E (.ref A.c_BadNumber) (some d) H'))
theorem okX_check_number (T : Txt K mg A) : FnOk P w K mg base (L2.CX P w) 3 A.f_check_number A.fd_check_number ["number"] (spX_check_number K A) := by
  refine T.F_check_number.okX sc_check_number (fun vs H Q E h => ?_) (fun cdv A' outer s0 H vs Q E hr h => ?_)
  · obtain ⟨n, rfl, _⟩ := h
    rfl
  · obtain ⟨x, rfl, ⟨n, rfl, hb, q⟩ | ⟨hx, fr, S, k⟩⟩ := h
    · refine ⟨_, (pss_one (ps_if (pt_not (pt_val (pe_call (ok_is_short T) (hr.mono (by decide)) rfl T.m_is_short T.k_is_short T.b_is_short .nil pass0 (pa_cons (pv 0) pa_nil)))) (pss_one (ps_gRaise rfl (takes_of rfl rfl rfl rfl) (pmk_oex T.ox_BadNumber T.oi_BadNumber T.ot_BadNumber (ok_BadNumber___init__ (K := K) T) (hr.mono (by decide)) T.b_BadNumber___init__ .nil pass0 rfl T.vm_BadNumber (pa_cons (pv 0) pa_nil)))) pss_nil)), ?_⟩
      walk_at "v"
      exact q
    · have hmk : gMkO A.c_BadNumber (sp_BadNumber___init__ K) [] [x] H fun cls d H' => E cls d H' := mk_one S T.ox_BadNumber T.xn_BadNumber_number k
      rcases hx with ⟨n, rfl, hn⟩ | ⟨b, rfl⟩ | rfl | ⟨z, rfl⟩
      · refine ⟨_, (pss_one (ps_if (pt_not (pt_val (pe_call (ok_is_short T) (hr.mono (by decide)) rfl T.m_is_short T.k_is_short T.b_is_short .nil pass0 (pa_cons (pv 0) pa_nil)))) (pss_one (ps_gRaise rfl (takes_of rfl rfl rfl rfl) (pmk_oex T.ox_BadNumber T.oi_BadNumber T.ot_BadNumber (ok_BadNumber___init__ (K := K) T) (hr.mono (by decide)) T.b_BadNumber___init__ .nil pass0 rfl T.vm_BadNumber (pa_cons (pv 0) pa_nil)))) pss_nil)), ?_⟩
        walk_at "v"
        exact hmk
      · refine ⟨_, (pss_one (ps_if (pt_not (pt_val (pe_call (ok_is_short T) (hr.mono (by decide)) rfl T.m_is_short T.k_is_short T.b_is_short .nil pass0 (pa_cons (pv 0) pa_nil)))) (pss_one (ps_gRaise rfl (takes_of rfl rfl rfl rfl) (pmk_oex T.ox_BadNumber T.oi_BadNumber T.ot_BadNumber (ok_BadNumber___init__ (K := K) T) (hr.mono (by decide)) T.b_BadNumber___init__ .nil pass0 rfl T.vm_BadNumber (pa_cons (pv 0) pa_nil)))) pss_nil)), ?_⟩
        walk_at "v"
        refine c_is_shortB ?_
        walk_at "v"
        exact hmk
      · refine ⟨_, (pss_one (ps_if (pt_not (pt_val (pe_call (ok_is_short T) (hr.mono (by decide)) rfl T.m_is_short T.k_is_short T.b_is_short .nil pass0 (pa_cons (pv 0) pa_nil)))) (pss_one (ps_gRaise rfl (takes_of rfl rfl rfl rfl) (pmk_oex T.ox_BadNumber T.oi_BadNumber T.ot_BadNumber (ok_BadNumber___init__ (K := K) T) (hr.mono (by decide)) T.b_BadNumber___init__ .nil pass0 rfl T.vm_BadNumber (pa_cons (pv 0) pa_nil)))) pss_nil)), ?_⟩
        walk_at "v"
        refine c_is_shortN (.base .non) (kit_ty k_ni) ?_
        walk_at "v"
        exact hmk
      · refine ⟨_, (pss_one (ps_if (pt_not (pt_val (pe_call (ok_is_short T) (hr.mono (by decide)) rfl T.m_is_short T.k_is_short T.b_is_short .nil pass0 (pa_cons (pv 0) pa_nil)))) (pss_one (ps_gRaise rfl (takes_of rfl rfl rfl rfl) (pmk_oex T.ox_BadNumber T.oi_BadNumber T.ot_BadNumber (ok_BadNumber___init__ (K := K) T) (hr.mono (by decide)) T.b_BadNumber___init__ .nil pass0 rfl T.vm_BadNumber (pa_cons (pv 0) pa_nil)))) pss_nil)), ?_⟩
        walk_at "v"
        refine c_is_shortN (.base (.str z)) (kit_ty k_si) ?_
        walk_at "v"
        exact hmk
theorem x_check_number {K : PySem.W.Frag} {A : Ad} {H : Hp} {n : Int} {Q : VK} {E : XK} (hb : -(10 ^ 30) < n ∧ n < 10 ^ 30) (q : Q .non H) : spX_check_number K A [.int n] H Q E := ⟨_, rfl, .inl ⟨n, rfl, hb, q⟩⟩
theorem x_check_numberN {K : PySem.W.Frag} {A : Ad} {l : List Asn} {H : Hp} {x : V} {Q : VK} {E : XK} (S : Sep l H) (hx : NoShort x) (k : ∀ d H', Sep (At d (.xd [("number", x)]) :: l) H' → E (.ref A.c_BadNumber) (some d) H') : spX_check_number K A [x] H Q E := ⟨_, rfl, .inr ⟨hx, l, S, k⟩⟩
/-! Counts___init__ -/
def sp_Counts___init__ (K : PySem.W.Frag) : Sp := fun vs H Q _ => ∃ (x C d : Addr) (fr : List Asn), vs = [.ref x, .ref d] ∧ Kl K C cNs ∧ Sep (Ob x C [] :: At d (.dK []) :: fr) H ∧ ∀ H', Sep (Co x C (fun _ => 0) :: fr) H' → Q .non H'
theorem okR_Counts___init__ (T : Txt K mg A) : FnR P w K mg base CX0 4 A.f_Counts___init__ (kwSp 1 (sp_Counts___init__ K)) := by
  refine fun_kw0 (ps := ["self"]) (pd := "numbers") T.F_Counts___init__ sc_Counts___init__ (fun kV doc pm an cdv ct us hl => match us, hl with | [_], _ => rfl) (fun cdv A' outer s0 H vs Q E hr h => ?_)
  · obtain ⟨x, C, d, fr, rfl, hC, S, k⟩ := h
    refine ⟨_, (pss_cons (ps_lock (ps_for PassesOwn.never rfl (pi_items (pv 1)) (pg_gTup (K := K) rfl rfl (pgs_cons (pg_name (i := 2) sc_Counts___init__.nd rfl (.inl rfl)) (pgs_cons (pg_name (i := 3) sc_Counts___init__.nd rfl (.inl rfl)) pgs_nil))) (pss_cons (ps_expr (pe_call (ok_check_word T) (hr.mono (by decide)) rfl T.m_check_word T.k_check_word T.b_check_word .nil pass0 (pa_cons (pv 2) pa_nil)))
      (pss_one (ps_expr (pe_call (ok_check_number T) (hr.mono (by decide)) rfl T.m_check_number T.k_check_number T.b_check_number .nil pass0 (pa_cons (pv 3) pa_nil)))))))
      (pss_one (ps_gFld (K := K) rfl (pv 0) (pe_lock (pe_dc (own := [("word", 2), ("number", 3)]) (g := (gTup K 2 (gCons (gName 2) (gCons (gName 3) gNil)))) rfl sc_Counts___init__.nd (pi_items (pv 1)) (blkOk_by (N := ["self", "numbers", "word", "number"]) (sc := defScope s_Counts___init__) (by decide +kernel)) (fun _ _ _ _ _ => (pg_gTup (K := K) rfl rfl (pgs_cons (pg_name (i := 2) sc_Counts___init__.nd rfl (.inl rfl)) (pgs_cons (pg_name (i := 3) sc_Counts___init__.nd rfl (.inl rfl)) pgs_nil)))) (fun _ _ _ _ _ => (pts_one (pt_cmpR (op_gNe (K := K) rfl hr.units) (pv 3) pe_int (nomark _)))) (fun _ _ _ _ _ => (pv 2)) (fun _ _ _ _ _ => (pv 3)))) rfl))), ?_⟩
    walk_at "v"
    refine forI S (hasS has0) (fun od i σ H => i = 0 ∧ σ = [some (.ref x), some (.ref d), none, none] ∧ Sep (Ob x C [] :: At d (.frz od (.dK [])) :: fr) H) (fun od H' S' => ⟨rfl, rfl, S'⟩) (fun od i σ H ⟨_, _, S'⟩ => S'.at (i := 1) rfl) ?_ ?_ (var_at rfl)
    · intro od i k' v T σ H H' hi
      cases hi
    · rintro od σ H1 ⟨_, rfl, S1⟩
      have S2 := S1.upd (i := 1) rfl (o' := .dK []) (fun _ z => nomatch z)
      generalize upd H1 d (.dK []) = H2 at S2 ⊢
      walk_at "v"
      refine dcI0 S2 (hasS has0) (var_at rfl) fun D H3 S3 => ?_
      walk_at "v"
      rename_i H4 S4
      exact k _ (co_close (m := []) ⟨List.nodup_nil, (fun _ z => nomatch z), by decide⟩ rfl (Sep.dr2 S4.fr1))
theorem c_Counts0 {K : PySem.W.Frag} {l : List Asn} {H : Hp} {C : Addr} {P : Addr → Hp → Prop} {E : XK} (S : Sep l H) (hC : Kl K C cNs) (k : ∀ x H', Sep (Co x C (fun _ => 0) :: l) H' → P x H') :
    ∀ x dx, H x = Option.none → H dx = Option.none → dx ≠ x → kwSp 1 (sp_Counts___init__ K) [V.ref x] (upd (upd H dx (.own x)) x (.ins C dx [])) (fun v H2 => v = .non ∧ P x H2) E :=
  n_make (P := fun x H' => kwSp 1 (sp_Counts___init__ K) [V.ref x] H' (fun v H2 => v = .non ∧ P x H2) E) S fun x H1 S1 =>
    ⟨rfl, fun d hd => ⟨x, C, d, l, rfl, hC, (S1.new hd).fr1, fun H3 S3 => ⟨rfl, k x H3 S3⟩⟩⟩
def Gq (m : List (Str × Int)) : Prop := ∀ x ∈ m, Wd x.1 ∧ -(10 ^ 30) < x.2 ∧ x.2 < 10 ^ 30
def spX_Counts___init__ (K : PySem.W.Frag) (A : Ad) : Sp := fun vs H Q E => ∃ (x C d : Addr) (m : List (Str × Int)) (fr : List Asn), vs = [.ref x, .ref d] ∧ Kl K C cNs ∧ Gq m ∧ (keys m).Nodup ∧ m.length ≤ 60 ∧ Sep (Ob x C [] :: At d (.dK (mp m)) :: fr) H ∧ ∀ H', Sep (Co x C (num m) :: fr) H' → Q .non H'
theorem okK_Counts___init__ (T : Txt K mg A) (ks : List Str) (hks : ks.Nodup) (hkz : ks.length ≤ 900) (bind : ∀ (kV doc pm : Value) (an : Option Addr) (cdv ct : Value) (us ws : List Value), us.length = (["self"] : List Str).length → ws.length = ks.length → bindArgs (PySem.W.fnOf "__init__" "Counts.__init__" (defArgs s_Counts___init__) (defBody s_Counts___init__) (defScope s_Counts___init__) .none kV doc pm an cdv ct) ⟨us, ks.zip ws⟩ = ((alloc ({ cls := .type "dict", data := .dict #[] } : Obj) : Sem Addr) >>= fun d => kwFill d (ks.zip ws) >>= fun _ => pure ((["self"] : List Str).zip us ++ [(("numbers" : Str), Value.ref d)]))) : FnK P w K mg base (L2.CX P w) 4 A.f_Counts___init__ ks (kwSpN 1 ks (spX_Counts___init__ K A)) := by
  refine fun_kwN (ps := ["self"]) (pd := "numbers") ks hks hkz T.F_Counts___init__ sc_Counts___init__ bind (fun cdv A' outer s0 H vs Q E hr h => ?_)
  · obtain ⟨x, C, d, m, fr, rfl, hC, hg, hn, hz, S, k⟩ := h
    refine ⟨_, (pss_cons (ps_lock (ps_for (passes_of rfl) rfl (pi_items (pv 1)) (pg_gTup (K := K) rfl rfl (pgs_cons (pg_name (i := 2) sc_Counts___init__.nd rfl (.inl rfl)) (pgs_cons (pg_name (i := 3) sc_Counts___init__.nd rfl (.inl rfl)) pgs_nil))) (pss_cons (ps_expr (pe_call (ok_check_word T) (hr.mono (by decide)) rfl T.m_check_word T.k_check_word T.b_check_word .nil pass0 (pa_cons (pv 2) pa_nil)))
      (pss_one (ps_expr (pe_call (ok_check_number T) (hr.mono (by decide)) rfl T.m_check_number T.k_check_number T.b_check_number .nil pass0 (pa_cons (pv 3) pa_nil)))))))
      (pss_one (ps_gFld (K := K) rfl (pv 0) (pe_lock (pe_dc (own := [("word", 2), ("number", 3)]) (g := (gTup K 2 (gCons (gName 2) (gCons (gName 3) gNil)))) rfl sc_Counts___init__.nd (pi_items (pv 1)) (blkOk_by (N := ["self", "numbers", "word", "number"]) (sc := defScope s_Counts___init__) (by decide +kernel)) (fun _ _ _ _ _ => (pg_gTup (K := K) rfl rfl (pgs_cons (pg_name (i := 2) sc_Counts___init__.nd rfl (.inl rfl)) (pgs_cons (pg_name (i := 3) sc_Counts___init__.nd rfl (.inl rfl)) pgs_nil)))) (fun _ _ _ _ _ => (pts_one (pt_cmpR (op_gNe (K := K) rfl hr.units) (pv 3) pe_int (nomark _)))) (fun _ _ _ _ _ => (pv 2)) (fun _ _ _ _ _ => (pv 3)))) rfl))), ?_⟩
    walk_at "v"
    refine forI S (hasS has0) (fun od i σ H => ∃ a b, σ = [some (.ref x), some (.ref d), a, b] ∧ Sep (Ob x C [] :: At d (.frz od (.dK (mp m))) :: fr) H) (fun od H' S' => ⟨_, _, rfl, S'⟩) (fun od i σ H ⟨_, _, _, S'⟩ => S'.at (i := 1) rfl) ?_ ?_ (var_at rfl)
    · rintro od i k' v T' σ H1 H2 hi ⟨a, b, rfl, S1⟩ hT rfl
      obtain ⟨w, n, ew, rfl, rfl⟩ := mp_at hi
      obtain ⟨hw, hb⟩ := hg _ (List.mem_of_getElem? ew)
      have S2 := S1.newT (xs := [.str w, .int n]) hT
      rw [show upd H1 T' (.tup [kV (.inr w), .int n]) = upd H1 T' (.tup [.str w, .int n]) from rfl]
      generalize upd H1 T' (.tup [.str w, .int n]) = H2 at S2 ⊢
      clear S S1
      walk_at "v"
      rename_i H5 S5
      exact ⟨_, _, rfl, S5.tail⟩
    · rintro od σ H1 ⟨a, b, rfl, S1⟩
      have S2 := S1.upd (i := 1) rfl (o' := .dK (mp m)) (fun _ z => nomatch z)
      generalize upd H1 d (.dK (mp m)) = H2 at S2 ⊢
      clear S S1
      walk_at "v"
      refine dcI S2 (hasS has0) (fun od D i H => Sep (At D (.dK (mp (nz (m.take i)))) :: Ob x C [] :: At d (.frz od (.dK (mp m))) :: fr) H) (fun od D H' S' => S') (fun od D i H S' => S'.at (i := 2) rfl) ?_ ?_ (var_at rfl)
      · rintro od D i k' v T' H3 H4 hi S3 hT rfl
        obtain ⟨w, n, ey, rfl, rfl⟩ := mp_at hi
        have S4 := S3.newT (xs := [.str w, .int n]) hT
        rw [show upd H3 T' (.tup [kV (.inr w), .int n]) = upd H3 T' (.tup [.str w, .int n]) from rfl]
        generalize upd H3 T' (.tup [.str w, .int n]) = H4 at S4 ⊢
        have ht := nz_turn hn ey
        have hnd : (keys (m.take i)).Nodup := by
          have e : keys (m.take i) = (keys m).take i := by unfold keys; rw [List.map_take]
          rw [e]; exact List.Nodup.sublist (List.take_sublist _ _) hn
        have hlen : (nz (m.take i)).length < 100000 := by
          have h1 := List.length_filter_le (fun x : Str × Int => decide (x.2 ≠ 0)) (m.take i)
          have h3 : (m.take i).length ≤ m.length := by rw [List.length_take]; omega
          show (List.filter _ _).length < 100000
          omega
        clear S2 S3
        refine dc_turn ?_
        walk_at "v"
        refine r_ifN (fun e0 => ?_) (fun e0 => ?_)
        · walk_at "v"
          refine dp_put S4 (hasS has0) (nz_nodup hnd) hlen fun H8 S8 => ?_
          rw [ht.1 e0]
          exact S8.tail
        · rw [ht.2 e0]
          exact S4.tail
      · rintro od D H3 S3
        rw [show (mp m).length = m.length by rw [List.length_map], List.take_length] at S3
        have S4 := S3.upd (i := 2) rfl (o' := .dK (mp m)) (fun _ z => nomatch z)
        generalize upd H3 d (.dK (mp m)) = H4 at S4 ⊢
        clear S2 S3
        walk_at "v"
        rename_i H5 S5
        exact k _ (co_close (nz_good hn (fun x hx => (hg x hx).1) (by omega)) (filt_num hn) (d := D) (S5.reord [1, 0]).dr2)
theorem x_Counts {K : PySem.W.Frag} {A : Ad} {l : List Asn} {H : Hp} {C : Addr} {ks : List Str} {zs : List V} {m : List (Str × Int)} {P : Addr → Hp → Prop} {E : XK} (S : Sep l H) (hC : Kl K C cNs) (hl : zs.length = ks.length) (hm : kwV ks zs = mp m) (hg : Gq m) (hn : (keys m).Nodup) (hz : m.length ≤ 60) (k : ∀ x H', Sep (Co x C (num m) :: l) H' → P x H') :
    ∀ x dx, H x = Option.none → H dx = Option.none → dx ≠ x → kwSpN 1 ks (spX_Counts___init__ K A) zs [V.ref x] (upd (upd H dx (.own x)) x (.ins C dx [])) (fun v H2 => v = .non ∧ P x H2) E :=
  n_make (P := fun x H' => kwSpN 1 ks (spX_Counts___init__ K A) zs [V.ref x] H' (fun v H2 => v = .non ∧ P x H2) E) S fun x H1 S1 =>
    ⟨rfl, hl, fun d hd => ⟨x, C, d, m, l, rfl, hC, hg, hn, hz, (by rw [hm]; exact (S1.new hd).fr1), fun H3 S3 => ⟨rfl, k x H3 S3⟩⟩⟩
/-! counts_of -/
def sp_counts_of (K : PySem.W.Frag) (A : Ad) : Sp := fun vs H Q _ => ∃ (a : Addr) (ps : List (Str × Int)) (fr : List Asn), vs = [.ref a] ∧ (keys ps).Nodup ∧ (∀ x ∈ ps, Wd x.1) ∧ ps.length ≤ 500 ∧ Sep (LD a (pds ps) :: fr) H ∧ ∀ p H', Sep (Co p A.c_Counts (num ps) :: LD a (pds ps) :: fr) H' → Q (.ref p) H'
theorem ok_counts_of (T : Txt K mg A) : FnOk P w K mg base CX0 6 A.f_counts_of A.fd_counts_of ["pairs"] (sp_counts_of K A) := by
  refine T.F_counts_of.ok sc_counts_of (fun vs H Q E h => ?_) (fun cdv A' outer s0 H vs Q E hr h => ?_)
  · obtain ⟨a, ps, fr, rfl, _⟩ := h
    rfl
  · obtain ⟨a, ps, fr, rfl, hn, hw, hz, S, k⟩ := h
    have kl := T.kl_Counts
    refine ⟨_, (pss_cons (ps_set (i := 1) sc_counts_of.nd rfl (.inl rfl) (pe_makeR0 T.mk_Counts (okR_Counts___init__ (K := K) T) (hr.mono (by decide)) rfl T.vm_Counts pass0))
      (pss_cons (ps_gFld (K := K) rfl (pv 1) (pe_dc (own := [("word", 2), ("number", 3)]) (g := (gTup K 2 (gCons (gName 2) (gCons (gName 3) gNil)))) rfl sc_counts_of.nd (pi_gList (K := K) rfl (pv 0)) (blkOk_by (N := ["pairs", "made", "word", "number"]) (sc := defScope s_counts_of) (by decide +kernel)) (fun _ _ _ _ _ => (pg_gTup (K := K) rfl rfl (pgs_cons (pg_name (i := 2) sc_counts_of.nd rfl (.inl rfl)) (pgs_cons (pg_name (i := 3) sc_counts_of.nd rfl (.inl rfl)) pgs_nil)))) (fun _ _ _ _ _ => (pts_one (pt_cmpR (op_gNe (K := K) rfl hr.units) (pv 3) pe_int (nomark _)))) (fun _ _ _ _ _ => (pv 2)) (fun _ _ _ _ _ => (pv 3))) rfl)
      (pss_one (ps_ret (pv 1))))), ?_⟩
    walk_at "v"
    refine c_Counts0 S kl fun x H3 S3 => ?_
    obtain ⟨d1, m1, hg1, he1, S4⟩ := co_open S3
    obtain ⟨vs, hvs, S5⟩ := ld_open (S4.pick (i := 2) rfl)
    walk_at "v"
    refine r_dcL ?_
    walk_at "v"
    have hl : vs.length = ps.length := ps_len hvs
    refine dcL S5 has0 (fun D i H => Sep (At D (.dK (mp (nz (ps.take i)))) :: At a (.lst vs) :: DVs vs (pds ps) :: Ob x A.c_Counts [("_numbers", .ref d1)] :: At d1 (.dK (mp m1)) :: fr) H) (fun D H' S' => S') (fun D i H S' => S'.at (i := 1) rfl) ?_ ?_
    · intro D i v H6 hv S6
      obtain ⟨q, y, ey, rfl, hqy⟩ := ps_get (S6.dvs (i := 2) rfl) hv
      have S7 := S6.addT hqy
      have ht := nz_turn hn ey
      have hnd : (keys (ps.take i)).Nodup := by
        have e : keys (ps.take i) = (keys ps).take i := by unfold keys; rw [List.map_take]
        rw [e]; exact List.Nodup.sublist (List.take_sublist _ _) hn
      have hlen : (nz (ps.take i)).length < 100000 := by
        have h1 := List.length_filter_le (fun x : Str × Int => decide (x.2 ≠ 0)) (ps.take i)
        have h2 := List.length_take_le i ps
        have h3 : (ps.take i).length ≤ ps.length := by rw [List.length_take]; omega
        show (List.filter _ _).length < 100000
        omega
      refine dc_turn ?_
      walk_at "v"
      refine r_ifN (fun e0 => ?_) (fun e0 => ?_)
      · walk_at "v"
        refine dp_put S7 (hasS has0) (nz_nodup hnd) hlen fun H8 S8 => ?_
        rw [ht.1 e0]
        exact S8.tail
      · rw [ht.2 e0]
        exact S6
    · intro D H6 S6
      rw [hl, List.take_length] at S6
      walk_at "v"
      rename_i H7 S7
      refine k x _ (co_close (nz_good hn hw hz) (filt_num hn) (d := D) ?_)
      have h2 := S7.dvs (i := 2) rfl
      have S8 : Sep (At a (.lst vs) :: Ob x A.c_Counts [("_numbers", .ref D)] :: At D (.dK (mp (nz ps))) :: fr) _ := (S7.reord [1, 2, 0]).dr3.dr3
      exact (ld_close h2 S8).reord [1, 1, 0]
theorem c_co_of {K : PySem.W.Frag} {A : Ad} {l : List Asn} {H : Hp} {i : Nat} {a : Addr} {ps : List (Str × Int)} {Q : VK} {E : XK} (S : Sep l H) (e : l[i]? = some (LD a (pds ps))) (hn : (keys ps).Nodup) (hw : ∀ x ∈ ps, Wd x.1) (hz : ps.length ≤ 500) (k : ∀ p H', Sep (Co p A.c_Counts (num ps) :: l) H' → Q (.ref p) H') : sp_counts_of K A [.ref a] H Q E :=
  ⟨a, ps, _, rfl, hn, hw, hz, S.pick e, fun p H' S' => k p H' (Sep.backS (i := i + 1) (l := _ :: l) e (S'.reord [1]))⟩
/-! BadCounts___init__ -/
abbrev sp_BadCounts___init__ (K : PySem.W.Frag) : Sp := sp_exi K "at"
theorem ok_BadCounts___init__ (T : Txt K mg A) : FnOk P w K mg base CX0 1 A.f_BadCounts___init__ A.fd_BadCounts___init__ ["self", "at"] (sp_BadCounts___init__ K) := by
  refine T.F_BadCounts___init__.ok sc_BadCounts___init__ (fun vs H Q E h => ?_) (fun cdv A' outer s0 H vs Q E hr h => ?_)
  · obtain ⟨a, C, x, rfl, _⟩ := h
    rfl
  · obtain ⟨a, C, x, rfl, hT, hn, ha, k⟩ := h
    refine ⟨_, (pss_one (ps_gOst (K := K) rfl (pv 0) (pv 1))), ?_⟩
    walk_at "v"
    exact ⟨a, C, rfl, hT, hn, .inl ⟨ha, fun dx h1 h2 => k dx h1 h2⟩⟩
/-! is_pair -/
def sp_is_pair (K : PySem.W.Frag) : Sp := fun vs H Q _ => ∃ (q : Addr) (x : Str × Int) (fr : List Asn), vs = [.ref q] ∧ (Wd x.1 ∧ -(10 ^ 30) < x.2 ∧ x.2 < 10 ^ 30) ∧ Sep (Tp q [.str x.1, .int x.2] :: fr) H ∧ ∀ H', Sep (Tp q [.str x.1, .int x.2] :: fr) H' → Q (.bl true) H'
theorem c_is_pair {K : PySem.W.Frag} {l : List Asn} {H : Hp} {i : Nat} {q : Addr} {x : Str × Int} {Q : VK} {E : XK} (S : Sep l H) (e : l[i]? = some (Tp q [.str x.1, .int x.2])) (hx : Wd x.1 ∧ -(10 ^ 30) < x.2 ∧ x.2 < 10 ^ 30) (k : ∀ H', Sep l H' → Q (.bl true) H') : sp_is_pair K [.ref q] H Q E :=
  ⟨q, x, _, rfl, hx, S.pick e, fun H' S' => k H' (Sep.backS e S')⟩
theorem ok_is_pair (T : Txt K mg A) : FnOk P w K mg base CX0 3 A.f_is_pair A.fd_is_pair ["value"] (sp_is_pair K) := by
  refine T.F_is_pair.ok sc_is_pair (fun vs H Q E h => ?_) (fun cdv A' outer s0 H vs Q E hr h => ?_)
  · obtain ⟨q, x, fr, rfl, _⟩ := h
    rfl
  · obtain ⟨q, ⟨w, n⟩, fr, rfl, ⟨hw, h0, h1⟩, S, k⟩ := h
    have hz : w.length ≤ 3000 := by have h := (show Wd w from hw).2.1; omega
    refine ⟨_, (pss_one (ps_ret (pe_and (pe_callB (call_gIsi (K := K) rfl) (by rfl) T.n_isinstance (by decide +kernel) (pa_cons (pv 0) (pa_cons (pe_bltn (v := .ty "tuple") (by rfl) T.n_tuple (by decide +kernel) rfl) pa_nil))) (pe_and (pe_cmpR (op_gEq (K := K) rfl hr.units) (pe_callB (call_gLen (K := K) rfl) (by rfl) T.n_len (by decide +kernel) (pa_cons (pv 0) pa_nil)) pe_int (nomark _)) (pe_and (pe_call (ok_is_word T) (hr.mono (by decide)) rfl T.m_is_word T.k_is_word T.b_is_word .nil pass0 (pa_cons (pe_ix (ix_g (K := K) rfl) (pv 0) pe_int (fun _ _ => rfl)) pa_nil)) (pe_one (pe_call (ok_is_short T) (hr.mono (by decide)) rfl T.m_is_short T.k_is_short T.b_is_short .nil pass0 (pa_cons (pe_ix (ix_g (K := K) rfl) (pv 0) pe_int (fun _ _ => rfl)) pa_nil)))))))), ?_⟩
    walk_at "v"
    have hd : decide (-10 ^ 30 < n ∧ n < 10 ^ 30) = true := decide_eq_true ⟨h0, h1⟩
    show Q (.bl (decide (-10 ^ 30 < n ∧ n < 10 ^ 30))) _
    rw [hd]
    exact k _ (by assumption)
local macro_rules | `(tactic| walk_at "v1") => `(tactic| ((with_reducible refine' c_is_pair (by assumption) ?hi ?hx ?_); (case hi => walk_at "has"); (case hx => assumption); intro _ _))
/-! Counts_of -/
def sp_Counts_of (K : PySem.W.Frag) (A : Ad) : Sp := fun vs H Q _ => ∃ (C a : Addr) (ps : List (Str × Int)) (fr : List Asn), vs = [.ref C, .ref a] ∧ Gp ps ∧ ps.length ≤ 64 ∧
  ((Sep (LD a (pds ps) :: fr) H ∧ ∀ p H', Sep (Co p A.c_Counts (psum ps) :: LD a (pds ps) :: fr) H' → Q (.ref p) H') ∨ ∃ ws, Sep (Tp a ws :: DVs ws (pds ps) :: fr) H ∧ ∀ p H', Sep (Co p A.c_Counts (psum ps) :: Tp a ws :: DVs ws (pds ps) :: fr) H' → Q (.ref p) H')
theorem ok_Counts_of (T : Txt K mg A) : FnOk P w K mg base CX0 7 A.f_Counts_of A.fd_Counts_of ["cls", "pairs"] (sp_Counts_of K A) := by
  refine T.F_Counts_of.ok sc_Counts_of (fun vs H Q E h => ?_) (fun cdv A' outer s0 H vs Q E hr h => ?_)
  · obtain ⟨C, a, ps, fr, rfl, _⟩ := h
    rfl
  · obtain ⟨C, a, ps, fr, rfl, hg, hz, h⟩ := h
    rcases h with ⟨S, k⟩ | ⟨vs, S, k⟩
    · obtain ⟨vs, hvs, S⟩ := ld_open S
      refine ⟨_, (pss_cons (ps_if (pt_not (pt_val (pe_callB (call_gIsi (K := K) rfl) (by rfl) T.n_isinstance (by decide +kernel) (pa_cons (pv 1) (pa_cons (pe_tup (pa_cons (pe_bltn (v := .ty "list") (by rfl) T.n_list (by decide +kernel) rfl) (pa_cons (pe_bltn (v := .ty "tuple") (by rfl) T.n_tuple (by decide +kernel) rfl) pa_nil))) pa_nil))))) (pss_one ps_never) pss_nil)
      (pss_cons (ps_for PassesOwn.never rfl (pi_enum (by rfl) T.n_enumerate (pa_cons (pv 1) pa_nil)) (pg_gTup (K := K) rfl rfl (pgs_cons (pg_name (i := 2) sc_Counts_of.nd rfl (.inl rfl)) (pgs_cons (pg_name (i := 3) sc_Counts_of.nd rfl (.inl rfl)) pgs_nil))) (pss_one (ps_if (pt_not (pt_val (pe_call (ok_is_pair T) (hr.mono (by decide)) rfl T.m_is_pair T.k_is_pair T.b_is_pair .nil pass0 (pa_cons (pv 3) pa_nil)))) (pss_one ps_never) pss_nil)))
      (pss_cons (ps_set (i := 4) sc_Counts_of.nd rfl (.inl rfl) pe_dnewK)
      (pss_cons (ps_for PassesOwn.never rfl (pi_gList (K := K) rfl (pv 1)) (pg_gTup (K := K) rfl rfl (pgs_cons (pg_name (i := 5) sc_Counts_of.nd rfl (.inl rfl)) (pgs_cons (pg_name (i := 6) sc_Counts_of.nd rfl (.inl rfl)) pgs_nil))) (pss_one (ps_dput (hu_of hr) (pv 4) (pv 5) (pe_op op_gAdd (pe_dget2 (hu_of hr) (pv 4) (pv 5) pe_int ⟨by rfl, by rfl, by rfl, by rfl⟩) (pv 6)) rfl)))
      (pss_one (ps_ret (pe_call (ok_counts_of T) (hr.mono (by decide)) rfl T.m_counts_of T.k_counts_of T.b_counts_of .nil pass0 (pa_cons (LiI.pe_listItems rfl (pv 4) (by rfl) T.n_list (by decide +kernel)) pa_nil)))))))), ?_⟩
      walk_at "v"
      rename_i q H1 S1
      refine i_LT S1 (hasS has0) has0 ?_
      walk_at "v"
      refine forE S1 (hasS has0) (fun i σ H => ∃ b c, σ = [some (.ref C), some (.ref a), b, c, none, none, none] ∧ Sep (At a (.lst vs) :: DVs vs (pds ps) :: fr) H) ⟨_, _, rfl, S1.tail⟩ (fun i σ H ⟨b, c, _, S'⟩ => S'.at (i := 0) rfl) ?_ ?_
      · rintro i x Tt σ H3 H4 hx ⟨b, c, rfl, S3⟩ hT rfl
        obtain ⟨qq, y, ey, rfl, hq⟩ := ps_get (S3.dvs (i := 1) rfl) hx
        have S4 := (S3.addT hq).newT (xs := [.int (i : Nat), .ref qq]) hT
        have hy := hg y (List.mem_of_getElem? ey)
        clear S S1 S3
        walk_at "v"
        exact ⟨_, _, rfl, (by assumption : Sep (_ :: _ :: _) _).tail.tail⟩
      · rintro σ H3 ⟨b, c, rfl, S3⟩
        clear S S1
        walk_at "v"
        rename_i d H5 S5
        refine forL S5 (hasS has0) (fun i σ H => ∃ (m : List (Str × Int)) (x y : Option V), σ = [some (.ref C), some (.ref a), b, c, some (.ref d), x, y] ∧ (keys m).Nodup ∧ m.length ≤ i ∧ (∀ w, w ∈ keys m → w ∈ keys (ps.take i)) ∧ (∀ w, num m w = psum (ps.take i) w) ∧ Sep (At d (.dK (mp m)) :: At a (.lst vs) :: DVs vs (pds ps) :: fr) H)
          ⟨[], _, _, rfl, List.nodup_nil, Nat.le_refl _, fun _ h => (nomatch h), fun _ => rfl, S5⟩ (fun i σ H ⟨m, _, _, _, _, _, _, _, S⟩ => S.at (i := 1) rfl) ?_ ?_
        · rintro i x σ H6 hx ⟨m, b', c', rfl, hn, hl, hk, hs, S6⟩
          obtain ⟨q', y, ey, rfl, hq⟩ := ps_get (S6.dvs (i := 2) rfl) hx
          have S7 := S6.addT hq
          have hi := get_lt ey
          clear S5 S6
          walk_at "v"
          rename_i H8 S8
          have et : ps.take (i + 1) = ps.take i ++ [y] := by rw [List.take_add_one, ey]; rfl
          refine ⟨_, _, _, rfl, nodup_put hn _ _, Nat.le_trans (len_put _ _ _) (by omega), fun w hw => ?_, fun w => ?_, S8.tail⟩
          · rw [et]
            unfold keys
            rw [List.map_append]
            rcases mem_put hw with hw | hw
            · rw [hw]
              exact List.mem_append_right _ (by exact List.mem_singleton.2 rfl)
            · exact List.mem_append_left _ (hk w hw)
          · rw [num_put, et, psum_app, hs, hs]
            show _ = _ + ((if y.1 = w then y.2 else 0) + 0)
            by_cases h : w = y.1
            · rw [if_pos h, if_pos h.symm, h]; omega
            · rw [if_neg h, if_neg (fun z => h z.symm)]; omega
        · rintro σ H6 ⟨m, b', c', rfl, hn, hl, hk, hs, S6⟩
          clear S5
          walk_at "v"
          rename_i pp H8 S8
          have e : ps.take vs.length = ps := List.take_of_length_le (by rw [ps_len hvs]; exact Nat.le_refl _)
          rw [e] at hk hs
          have hl2 := ps_len hvs
          refine ⟨pp, m, _, rfl, hn, fun x hx => ?_, by omega, S8, fun p' H9 S9 => ?_⟩
          · obtain ⟨y, hy, e⟩ := List.mem_map.1 (hk x.1 (List.mem_map_of_mem hx))
            rw [← e]
            exact (hg y hy).1
          · rw [funext hs] at S9
            have h2 := S9.dvs (i := 4) rfl
            exact k p' H9 ((ld_close h2 (S9.reord [3, 0]).dr2.dr2.dr2).reord [1, 0])
    · have hvs := S.dvs (i := 1) rfl
      refine ⟨_, (pss_cons (ps_if (pt_not (pt_val (pe_callB (call_gIsi (K := K) rfl) (by rfl) T.n_isinstance (by decide +kernel) (pa_cons (pv 1) (pa_cons (pe_tup (pa_cons (pe_bltn (v := .ty "list") (by rfl) T.n_list (by decide +kernel) rfl) (pa_cons (pe_bltn (v := .ty "tuple") (by rfl) T.n_tuple (by decide +kernel) rfl) pa_nil))) pa_nil))))) (pss_one ps_never) pss_nil)
      (pss_cons (ps_for PassesOwn.never rfl (pi_enumT (K := K) rfl (by rfl) T.n_enumerate (pa_cons (pv 1) pa_nil)) (pg_gTup (K := K) rfl rfl (pgs_cons (pg_name (i := 2) sc_Counts_of.nd rfl (.inl rfl)) (pgs_cons (pg_name (i := 3) sc_Counts_of.nd rfl (.inl rfl)) pgs_nil))) (pss_one (ps_if (pt_not (pt_val (pe_call (ok_is_pair T) (hr.mono (by decide)) rfl T.m_is_pair T.k_is_pair T.b_is_pair .nil pass0 (pa_cons (pv 3) pa_nil)))) (pss_one ps_never) pss_nil)))
      (pss_cons (ps_set (i := 4) sc_Counts_of.nd rfl (.inl rfl) pe_dnewK)
      (pss_cons (ps_for PassesOwn.never rfl (pi_gTup (K := K) rfl (pv 1)) (pg_gTup (K := K) rfl rfl (pgs_cons (pg_name (i := 5) sc_Counts_of.nd rfl (.inl rfl)) (pgs_cons (pg_name (i := 6) sc_Counts_of.nd rfl (.inl rfl)) pgs_nil))) (pss_one (ps_dput (hu_of hr) (pv 4) (pv 5) (pe_op op_gAdd (pe_dget2 (hu_of hr) (pv 4) (pv 5) pe_int ⟨by rfl, by rfl, by rfl, by rfl⟩) (pv 6)) rfl)))
      (pss_one (ps_ret (pe_call (ok_counts_of T) (hr.mono (by decide)) rfl T.m_counts_of T.k_counts_of T.b_counts_of .nil pass0 (pa_cons (LiI.pe_listItems rfl (pv 4) (by rfl) T.n_list (by decide +kernel)) pa_nil)))))))), ?_⟩
      walk_at "v"
      rename_i q H1 S1
      refine i_LTt S1 (hasS has0) has0 ?_
      walk_at "v"
      refine forET S1 (hasS has0) (fun i σ H => ∃ b c, σ = [some (.ref C), some (.ref a), b, c, none, none, none] ∧ Sep (Tp a vs :: DVs vs (pds ps) :: fr) H) ⟨_, _, rfl, S1.tail⟩ (fun i σ H ⟨b, c, _, S'⟩ => S'.tp (i := 0) rfl) ?_ ?_
      · rintro i x Tt σ H3 H4 hx ⟨b, c, rfl, S3⟩ hT rfl
        obtain ⟨qq, y, ey, rfl, hq⟩ := ps_get (S3.dvs (i := 1) rfl) hx
        have S4 := (S3.addT hq).newT (xs := [.int (i : Nat), .ref qq]) hT
        have hy := hg y (List.mem_of_getElem? ey)
        clear S S1 S3
        walk_at "v"
        exact ⟨_, _, rfl, (by assumption : Sep (_ :: _ :: _) _).tail.tail⟩
      · rintro σ H3 ⟨b, c, rfl, S3⟩
        clear S S1
        walk_at "v"
        rename_i d H5 S5
        refine forT S5 (hasS has0) (fun i σ H => ∃ (m : List (Str × Int)) (x y : Option V), σ = [some (.ref C), some (.ref a), b, c, some (.ref d), x, y] ∧ (keys m).Nodup ∧ m.length ≤ i ∧ (∀ w, w ∈ keys m → w ∈ keys (ps.take i)) ∧ (∀ w, num m w = psum (ps.take i) w) ∧ Sep (At d (.dK (mp m)) :: Tp a vs :: DVs vs (pds ps) :: fr) H)
          ⟨[], _, _, rfl, List.nodup_nil, Nat.le_refl _, fun _ h => (nomatch h), fun _ => rfl, S5⟩ (fun i σ H ⟨m, _, _, _, _, _, _, _, S⟩ => S.tp (i := 1) rfl) ?_ ?_
        · rintro i x σ H6 hx ⟨m, b', c', rfl, hn, hl, hk, hs, S6⟩
          obtain ⟨q', y, ey, rfl, hq⟩ := ps_get (S6.dvs (i := 2) rfl) hx
          have S7 := S6.addT hq
          have hi := get_lt ey
          clear S5 S6
          walk_at "v"
          rename_i H8 S8
          have et : ps.take (i + 1) = ps.take i ++ [y] := by rw [List.take_add_one, ey]; rfl
          refine ⟨_, _, _, rfl, nodup_put hn _ _, Nat.le_trans (len_put _ _ _) (by omega), fun w hw => ?_, fun w => ?_, S8.tail⟩
          · rw [et]
            unfold keys
            rw [List.map_append]
            rcases mem_put hw with hw | hw
            · rw [hw]
              exact List.mem_append_right _ (by exact List.mem_singleton.2 rfl)
            · exact List.mem_append_left _ (hk w hw)
          · rw [num_put, et, psum_app, hs, hs]
            show _ = _ + ((if y.1 = w then y.2 else 0) + 0)
            by_cases h : w = y.1
            · rw [if_pos h, if_pos h.symm, h]; omega
            · rw [if_neg h, if_neg (fun z => h z.symm)]; omega
        · rintro σ H6 ⟨m, b', c', rfl, hn, hl, hk, hs, S6⟩
          clear S5
          walk_at "v"
          rename_i pp H8 S8
          have e : ps.take vs.length = ps := List.take_of_length_le (by rw [ps_len hvs]; exact Nat.le_refl _)
          rw [e] at hk hs
          have hl2 := ps_len hvs
          refine ⟨pp, m, _, rfl, hn, fun x hx => ?_, by omega, S8, fun p' H9 S9 => ?_⟩
          · obtain ⟨y, hy, e⟩ := List.mem_map.1 (hk x.1 (List.mem_map_of_mem hx))
            rw [← e]
            exact (hg y hy).1
          · rw [funext hs] at S9
            exact k p' H9 (S9.drops [1, 1])
theorem c_counts_of {K : PySem.W.Frag} {A : Ad} {l : List Asn} {H : Hp} {i : Nat} {C a : Addr} {ps : List (Str × Int)} {Q : VK} {E : XK} (S : Sep l H) (e : l[i]? = some (LD a (pds ps))) (hg : Gp ps) (hz : ps.length ≤ 64) (k : ∀ p H', Sep (Co p A.c_Counts (psum ps) :: l) H' → Q (.ref p) H') : sp_Counts_of K A [.ref C, .ref a] H Q E :=
  ⟨C, a, ps, _, rfl, hg, hz, .inl ⟨S.pick e, fun p H' S' => k p H' (Sep.backS (i := i + 1) (l := _ :: l) e (S'.reord [1]))⟩⟩
local macro_rules | `(tactic| walk_at "v1") => `(tactic| ((with_reducible refine' c_counts_of (by assumption) ?hi ?hg ?hz ?_); (case hi => walk_at "has"); (case hg => assumption); (case hz => omega); intro _ _ _))
/-! law_told -/
theorem mp_get {m : List (Str × Int)} {i : Nat} {k : Key} {v : V} (h : (mp m)[i]? = some (k, v)) : ∃ w n, m[i]? = some (w, n) ∧ k = Sum.inr w ∧ v = .int n := by
  rw [List.getElem?_map] at h
  cases e : m[i]? with
  | none => rw [e] at h; cases h
  | some x =>
    rw [e] at h
    cases h
    exact ⟨x.1, x.2, rfl, rfl, rfl⟩
theorem toldOf_snoc (m : List (Str × Int)) (ws : List Str) (w : Str) : toldOf m (ws ++ [w]) = if num m w ≠ 0 then toldOf m ws ++ [(w, num m w)] else toldOf m ws := by
  unfold toldOf
  rw [List.filter_append, List.map_append]
  by_cases h : num m w ≠ 0
  · rw [if_pos h, List.filter_cons, if_pos (decide_eq_true h)]; rfl
  · rw [if_neg h, List.filter_cons, if_neg (by rw [decide_eq_false h]; exact Bool.false_ne_true)]
    show _ ++ [] = _
    rw [List.append_nil]
theorem toldOf_len (m : List (Str × Int)) (ws : List Str) : (toldOf m ws).length ≤ ws.length := by
  unfold toldOf
  rw [List.length_map]
  exact List.length_filter_le _ _
def sp_law_told : Sp := fun vs H Q _ => ∃ (d : Addr) (m : List (Str × Int)) (fr : List Asn), vs = [.ref d] ∧ (keys m).Nodup ∧ m.length < 64 ∧ Sep (At d (.dK (mp m)) :: fr) H ∧ ∀ (a : Addr) (L : List (Str × Int)) (H' : Hp), Told (num m) L → L.length ≤ m.length → Sep (LD a (pds L) :: At d (.dK (mp m)) :: fr) H' → Q (.ref a) H'
theorem c_told {l : List Asn} {H : Hp} {i : Nat} {d : Addr} {m : List (Str × Int)} {Q : VK} {E : XK} (S : Sep l H) (e : l[i]? = some (At d (.dK (mp m)))) (hn : (keys m).Nodup) (hz : m.length < 64) (k : ∀ (a : Addr) (L : List (Str × Int)) (H' : Hp), Told (num m) L → L.length ≤ m.length → Sep (LD a (pds L) :: l) H' → Q (.ref a) H') : sp_law_told [.ref d] H Q E :=
  ⟨d, m, _, rfl, hn, hz, S.pick e, fun a L H' h1 h2 S' => k a L H' h1 h2 (Sep.backS (i := i + 1) (l := LD a (pds L) :: _) e S'.fr1)⟩
theorem ok_law_told (T : Txt K mg A) : FnOk P w K mg base CX0 1 A.f_law_told A.fd_law_told ["model"] (sp_law_told) := by
  refine T.F_law_told.ok sc_law_told (fun vs H Q E h => ?_) (fun cdv A' outer s0 H vs Q E hr h => ?_)
  · obtain ⟨s, m, fr, rfl, _⟩ := h
    rfl
  · obtain ⟨d, m, fr, rfl, hn, hz, S, k⟩ := h
    have hk : (keys m).length = m.length := by unfold keys; rw [List.length_map]
    refine ⟨_, (pss_cons (ps_set (i := 1) sc_law_told.nd rfl (.inl rfl) (pe_callB (call_gSorted (K := K) rfl) (by rfl) T.n_sorted (by decide +kernel) (pa_cons (pe_lock (pe_lc (own := [("word", 2)]) (g := (gName 2)) rfl sc_law_told.nd (pi_keys (pv 0)) (blkOk_by (N := ["model", "words", "word"]) (sc := defScope s_law_told) (by decide +kernel)) (fun _ _ _ _ _ => (pg_name (i := 2) sc_law_told.nd rfl (.inl rfl))) (fun _ _ _ _ _ => pts_nil) (fun _ _ _ _ _ => (pe_callTy call_gStrS (by rfl) T.n_str (by decide +kernel) (pa_cons (pv 2) pa_nil))))) pa_nil)))
      (pss_one (ps_ret (pe_lc (own := [("word", 2)]) (g := (gName 2)) rfl sc_law_told.nd (pi_gList (K := K) rfl (pv 1)) (blkOk_by (N := ["model", "words", "word"]) (sc := defScope s_law_told) (by decide +kernel)) (fun _ _ _ _ _ => (pg_name (i := 2) sc_law_told.nd rfl (.inl rfl))) (fun _ _ _ _ _ => (pts_one (pt_cmpR (op_gNe (K := K) rfl hr.units) (pe_dget (hu_of hr) (pv 0) (pv 2) (fun _ _ => rfl)) pe_int (nomark _)))) (fun _ _ _ _ _ => (pe_tup (pa_cons (pv 2) (pa_cons (pe_dget (hu_of hr) (pv 0) (pv 2) (fun _ _ => rfl)) pa_nil)))))))), ?_⟩
    walk_at "v"
    refine lcK S has0 (fun od D i H => Sep (At D (.lst (((keys m).take i).map V.str)) :: At d (.frz od (.dK (mp m))) :: fr) H) (fun od D H' S' => S') (fun od D i H S' => S'.at (i := 1) rfl) ?_ ?_ (fun _ => funext fun _ => propext ⟨fun ⟨v, e, q⟩ => by cases e; exact q, fun q => ⟨_, rfl, q⟩⟩)
    · intro od D i k' v H1 hi S1
      obtain ⟨w, n, ew, rfl, rfl⟩ := mp_get hi
      have ek : (keys m)[i]? = some w := by unfold keys; rw [List.getElem?_map, ew]; rfl
      show LcT _ _ _ _ _ (V.str w) _ _ _
      refine lc_turn ?_
      walk_at "v"
      rename_i H2 S2
      rw [take_snoc ek, List.map_append]
      exact S2
    · intro od D H1 S1
      have S2 := S1.upd (i := 1) rfl (o' := .dK (mp m)) (fun _ z => nomatch z)
      rw [show (mp m).length = m.length by rw [List.length_map], ← hk, List.take_length] at S2
      generalize upd H1 d (.dK (mp m)) = H2 at S2 ⊢
      walk_at "v"
      refine c_sorted S2 has0 (by omega) fun ys a H3 hp hs S3 => ?_
      have hny : ys.Nodup := hp.symm.nodup hn
      have hasc := asc_of_sorted hs hny
      have hm : ∀ w, w ∈ ys ↔ w ∈ keys m := fun w => hp.mem_iff
      walk_at "v"
      refine lcL S3 has0 (fun B i H => ∃ vs, vs.length ≤ i ∧ Sep (At B (.lst vs) :: DVs vs (pds (toldOf m (ys.take i))) :: At a (.lst (ys.map V.str)) :: At d (.dK (mp m)) :: At D (.lst ((keys m).map V.str)) :: fr) H) (fun B H' S' => ?_) (fun B i H ⟨vs, _, S'⟩ => S'.at (i := 2) rfl) ?_ ?_
      · refine ⟨[], Nat.le_refl _, ((show Sep (At B (.lst []) :: At a (.lst (ys.map V.str)) :: At D (.lst ((keys m).map V.str)) :: At d (.dK (mp m)) :: fr) H' from S').reord [0, 0, 1]).addDs .nil |>.fr1⟩
      · rintro B i x H4 hx ⟨vs, hv, S4⟩
        rw [List.getElem?_map] at hx
        cases ey : ys[i]? with
        | none => rw [ey] at hx; cases hx
        | some w =>
          rw [ey] at hx
          cases hx
          have hw : w ∈ keys m := (hm w).1 (List.mem_of_getElem? ey)
          have hi := get_lt ey
          have hyl : ys.length = m.length := by rw [hp.length_eq, hk]
          rw [take_snoc ey, toldOf_snoc]
          refine lc_turn ?_
          walk_at "v"
          refine r_ifN (fun e0 => ?_) (fun e0 => ?_)
          · rw [if_pos e0]
            walk_at "v"
            rename_i q H5 S5 H6 S6
            have h1 := IsDs.snoc (pair_isD (S6.tp (i := 0) rfl)) (S6.dvs (i := 2) rfl)
            have e : pds (toldOf m (ys.take i)) ++ [pd (w, num m w)] = pds (toldOf m (ys.take i) ++ [(w, num m w)]) := by simp
            rw [e] at h1
            exact ⟨_, by rw [List.length_append]; exact Nat.succ_le_succ hv, (S6.tail.dr1.addDs h1).fr1⟩
          · rw [if_neg (fun z => z e0)]
            exact ⟨vs, by omega, S4⟩
      · rintro B H4 ⟨vs, hv, S4⟩
        walk_at "v"
        have e : ys.take (ys.map V.str).length = ys := by rw [List.length_map, List.take_length]
        rw [e] at S4
        have hyl : ys.length = m.length := by rw [hp.length_eq, hk]
        have ht := told_of hasc hm
        exact k B _ _ ht (by have := toldOf_len m ys; omega) ((ld_close (S4.dvs (i := 1) rfl) S4.dr1).dr1.dr2)
local macro_rules | `(tactic| walk_at "v1") => `(tactic| ((with_reducible refine' c_told (by assumption) ?hi (by assumption) ?hz ?_); (case hi => walk_at "has"); (case hz => omega); intro _ _ _ _ _ _))
theorem c_toldQ {l : List Asn} {H : Hp} {i : Nat} {d : Addr} {F : Str → Int} {ws : List Str} {Q : VK} {E : XK} (S : Sep l H) (e : l[i]? = some (Mq d F ws)) (hz : ws.length < 64) (k : ∀ (a : Addr) (L : List (Str × Int)) (H' : Hp), Told F L → L.length ≤ ws.length → Sep (LD a (pds L) :: l) H' → Q (.ref a) H') : sp_law_told [.ref d] H Q E := by
  obtain ⟨m, h1, h2, h3, S1⟩ := S.mq e
  have h4 := keys_le h1 h2
  subst h3
  exact ⟨d, m, _, rfl, h1, by omega, S1, fun a L H' ht hl S' => k a L H' ht (by omega) (Sep.mqBack (i := i + 1) (l := LD a (pds L) :: l) e h1 h2 rfl S'.fr1)⟩
local macro_rules | `(tactic| walk_at "v1") => `(tactic| ((with_reducible refine' c_toldQ (by assumption) ?hi ?hz ?_); (case hi => walk_at "has"); (case hz => (first | assumption | omega)); intro _ _ _ _ _ _))
/-! Counts_words -/
def sp_Counts_words (A : Ad) : Sp := fun vs H Q _ => ∃ (p : Addr) (g : Str → Int) (fr : List Asn), vs = [.ref p] ∧ Sep (Co p A.c_Counts g :: fr) H ∧ ∀ (d : Addr) (ys : List Str) (H' : Hp), Asc ys → (∀ w, w ∈ ys ↔ g w ≠ 0) → (∀ w ∈ ys, Wd w) → ys.length ≤ 500 → Sep (At d (.lst (ys.map V.str)) :: Co p A.c_Counts g :: fr) H' → Q (.ref d) H'
theorem c_words {A : Ad} {l : List Asn} {H : Hp} {i : Nat} {p : Addr} {g : Str → Int} {Q : VK} {E : XK} (S : Sep l H) (e : l[i]? = some (Co p A.c_Counts g)) (k : ∀ (d : Addr) (ys : List Str) (H' : Hp), Asc ys → (∀ w, w ∈ ys ↔ g w ≠ 0) → (∀ w ∈ ys, Wd w) → ys.length ≤ 500 → Sep (At d (.lst (ys.map V.str)) :: l) H' → Q (.ref d) H') : sp_Counts_words A [.ref p] H Q E :=
  ⟨p, g, _, rfl, S.pick e, fun d ys H' h1 h2 h3 h4 S' => k d ys H' h1 h2 h3 h4 (Sep.backS (i := i + 1) (l := _ :: l) e (S'.reord [1]))⟩
theorem ok_Counts_words (T : Txt K mg A) : FnOk P w K mg base CX0 1 A.f_Counts_words A.fd_Counts_words ["self"] (sp_Counts_words A) := by
  refine T.F_Counts_words.ok sc_Counts_words (fun vs H Q E h => ?_) (fun cdv A' outer s0 H vs Q E hr h => ?_)
  · obtain ⟨p, g, fr, rfl, _⟩ := h
    rfl
  · obtain ⟨p, g, fr, rfl, S, k⟩ := h
    have kl := T.kl_Counts
    obtain ⟨d, m, ⟨hn, hm, hz⟩, rfl, S1⟩ := co_open S
    clear S
    refine ⟨_, (pss_one (ps_ret (pe_callBK (call_gSortK (K := K) rfl rfl hr.units) (by rfl) T.n_sorted (by decide +kernel) (pa_cons (pe_gFld (K := K) rfl (pv 0) rfl) pa_nil) (pk_cons (pe_bltn (v := .ty "str") (by rfl) T.n_str (by decide +kernel) rfl) pk_nil)))), ?_⟩
    walk_at "v"
    have hk : (mp m).map (·.1) = (keys m).map Sum.inr := by unfold keys; rw [List.map_map, List.map_map]; rfl
    have hl : (keys m).length = m.length := by unfold keys; rw [List.length_map]
    refine sk_dict (ws := keys m) S1 (hasS has0) hk (by omega) fun ys a H1 hp hs S2 => ?_
    have hny : ys.Nodup := hp.symm.nodup hn
    have hmem : ∀ w, w ∈ ys ↔ w ∈ keys m := fun w => hp.mem_iff
    refine k a ys H1 (asc_of_sorted hs hny) (fun w => ?_) (fun w hw => ?_) (by rw [hp.length_eq]; omega) ((co_close ⟨hn, hm, hz⟩ rfl (S2.reord [1, 1])).fr1)
    · rw [hmem]
      constructor
      · intro hw
        obtain ⟨x, hx, rfl⟩ := List.mem_map.1 hw
        rw [num_at hn hx]; exact (hm x hx).1
      · intro h
        exact Classical.byContradiction fun z => h (num_none z)
    · obtain ⟨x, hx, rfl⟩ := List.mem_map.1 ((hmem w).1 hw)
      exact (hm x hx).2
local macro_rules | `(tactic| walk_at "v1") => `(tactic| ((with_reducible refine' c_words (by assumption) ?hi ?_); (case hi => walk_at "has"); intro _ _ _ _ _ _ _ _))
/-! Counts_pairs -/
def sp_Counts_pairs (A : Ad) : Sp := fun vs H Q _ => ∃ (p : Addr) (g : Str → Int) (fr : List Asn), vs = [.ref p] ∧ Sep (Co p A.c_Counts g :: fr) H ∧ ∀ (d : Addr) (L : List (Str × Int)) (H' : Hp), Told g L → (∀ x ∈ L, Wd x.1) → L.length ≤ 500 → Sep (LD d (pds L) :: Co p A.c_Counts g :: fr) H' → Q (.ref d) H'
theorem c_cpairs {A : Ad} {l : List Asn} {H : Hp} {i : Nat} {p : Addr} {g : Str → Int} {Q : VK} {E : XK} (S : Sep l H) (e : l[i]? = some (Co p A.c_Counts g)) (k : ∀ (d : Addr) (L : List (Str × Int)) (H' : Hp), Told g L → (∀ x ∈ L, Wd x.1) → L.length ≤ 500 → Sep (LD d (pds L) :: l) H' → Q (.ref d) H') : sp_Counts_pairs A [.ref p] H Q E :=
  ⟨p, g, _, rfl, S.pick e, fun d L H' h1 h2 h3 S' => k d L H' h1 h2 h3 (Sep.backS (i := i + 1) (l := _ :: l) e (S'.reord [1]))⟩
theorem ok_Counts_pairs (T : Txt K mg A) : FnOk P w K mg base CX0 3 A.f_Counts_pairs A.fd_Counts_pairs ["self"] (sp_Counts_pairs A) := by
  refine T.F_Counts_pairs.ok sc_Counts_pairs (fun vs H Q E h => ?_) (fun cdv A' outer s0 H vs Q E hr h => ?_)
  · obtain ⟨p, g, fr, rfl, _⟩ := h
    rfl
  · obtain ⟨p, g, fr, rfl, S, k⟩ := h
    have kl := T.kl_Counts
    refine ⟨_, (pss_one (ps_ret (pe_lc (own := [("word", 1)]) (g := (gName 1)) rfl sc_Counts_pairs.nd (pi_gList (K := K) rfl (pe_methR0 (pv 0) T.kl_Counts.c T.mt_Counts_words (raw0 (K := K) (ok_Counts_words (K := K) T) T.b_Counts_words) (hr.mono (by decide)) pass0)) (blkOk_by (N := ["self", "word"]) (sc := defScope s_Counts_pairs) (by decide +kernel)) (fun _ _ _ _ _ => (pg_name (i := 1) sc_Counts_pairs.nd rfl (.inl rfl))) (fun _ _ _ _ _ => pts_nil) (fun _ _ _ _ _ => (pe_tup (pa_cons (pv 1) (pa_cons (pe_dget (hu_of hr) (pe_gFld (K := K) rfl (pv 0) rfl) (pv 1) (fun _ _ => rfl)) pa_nil))))))), ?_⟩
    walk_at "v"
    walk_at "v"
    rename_i d ys H1 hasc hmem hwd hlen S1
    obtain ⟨dd, m, ⟨hn, hm, hz⟩, rfl, S2⟩ := co_open (S1.pick (i := 1) rfl)
    clear S S1
    refine lcL S2 (hasS (hasS has0)) (fun B i H => ∃ vs, vs.length ≤ i ∧ Sep (At B (.lst vs) :: DVs vs (pds ((ys.take i).map fun w => (w, num m w))) :: Ob p A.c_Counts [("_numbers", .ref dd)] :: At dd (.dK (mp m)) :: At d (.lst (ys.map V.str)) :: fr) H) (fun B H' S' => ⟨[], Nat.le_refl _, (S'.addDs .nil).fr1⟩) (fun B i H ⟨vs, _, S'⟩ => S'.at (i := 4) rfl) ?_ ?_
    · rintro B i x H4 hx ⟨vs, hv, S4⟩
      rw [List.getElem?_map] at hx
      cases ey : ys[i]? with
      | none => rw [ey] at hx; cases hx
      | some w =>
        rw [ey] at hx
        cases hx
        have hi := get_lt ey
        have hw : w ∈ keys m := Classical.byContradiction fun z => (hmem w).1 (List.mem_of_getElem? ey) (num_none z)
        rw [take_snoc ey, List.map_append]
        clear S2
        refine lc_turn ?_
        walk_at "v"
        rename_i q H5 S5 H6 S6
        have h1 := IsDs.snoc (pair_isD (S6.tp (i := 0) rfl)) (S6.dvs (i := 2) rfl)
        have e : pds ((ys.take i).map fun w => (w, num m w)) ++ [pd (w, num m w)] = pds ((ys.take i).map (fun w => (w, num m w)) ++ [(w, num m w)]) := by simp
        rw [e] at h1
        exact ⟨_, by rw [List.length_append]; exact Nat.succ_le_succ hv, (S6.tail.dr1.addDs h1).fr1⟩
    · rintro B H4 ⟨vs, hv, S4⟩
      have e : ys.take (ys.map V.str).length = ys := by rw [List.length_map, List.take_length]
      rw [e] at S4
      walk_at "v"
      have ek : keys (ys.map fun w => (w, num m w)) = ys := by
        unfold keys; rw [List.map_map]; conv => rhs; rw [← List.map_id ys]
        exact List.map_congr_left fun _ _ => rfl
      refine k B (ys.map fun w => (w, num m w)) _ ⟨by rw [ek]; exact hasc, fun w => by rw [ek]; exact hmem w, fun x hx => ?_⟩ (fun x hx => ?_) (by rw [List.length_map]; exact hlen) ?_
      · obtain ⟨w, _, rfl⟩ := List.mem_map.1 hx; rfl
      · obtain ⟨w, hw, rfl⟩ := List.mem_map.1 hx; exact hwd w hw
      · have S5 := ld_close (S4.dvs (i := 1) rfl) S4.dr1
        have S6 : Sep (Ob p A.c_Counts [("_numbers", .ref dd)] :: At dd (.dK (mp m)) :: LD B (pds (ys.map fun w => (w, num m w))) :: fr) H4 := (S5.dr3).reord [1, 1]
        exact (co_close ⟨hn, hm, hz⟩ rfl S6).fr1
local macro_rules | `(tactic| walk_at "v1") => `(tactic| ((with_reducible refine' c_cpairs (by assumption) ?hi ?_); (case hi => walk_at "has"); intro _ _ _ _ _ _ _))
/-! law_is_integer -/
def sp_law_is_integer : Sp := fun vs H Q _ => (∃ n : Int, vs = [.int n] ∧ Q (.bl true) H) ∨ ∃ x : V, vs = [x] ∧ (x = .non ∨ ∃ w : Str, x = .str w) ∧ Q (.bl false) H
theorem c_isint {n : Int} {H : Hp} {Q : VK} {E : XK} (q : Q (.bl true) H) : sp_law_is_integer [.int n] H Q E := .inl ⟨n, rfl, q⟩
theorem c_isintN {x : V} {H : Hp} {Q : VK} {E : XK} (h : x = .non ∨ ∃ w : Str, x = .str w) (q : Q (.bl false) H) : sp_law_is_integer [x] H Q E := .inr ⟨x, rfl, h, q⟩
theorem ok_law_is_integer (T : Txt K mg A) : FnOk P w K mg base CX0 1 A.f_law_is_integer A.fd_law_is_integer ["thing"] (sp_law_is_integer) := by
  refine T.F_law_is_integer.ok sc_law_is_integer (fun vs H Q E h => ?_) (fun cdv A' outer s0 H vs Q E hr h => ?_)
  · rcases h with ⟨n, rfl, _⟩ | ⟨x, rfl, _⟩ <;> rfl
  · rcases h with ⟨n, rfl, q⟩ | ⟨x, rfl, rfl | ⟨w, rfl⟩, q⟩
    · refine ⟨_, (pss_one (ps_ret (pe_and (pe_callB (call_gIsi (K := K) rfl) (by rfl) T.n_isinstance (by decide +kernel) (pa_cons (pv 0) (pa_cons (pe_bltn (v := .ty "int") (by rfl) T.n_int (by decide +kernel) rfl) pa_nil))) (pe_one (pe_not (pe_callB (call_gIsi (K := K) rfl) (by rfl) T.n_isinstance (by decide +kernel) (pa_cons (pv 0) (pa_cons (pe_bltn (v := .ty "bool") (by rfl) T.n_bool (by decide +kernel) rfl) pa_nil)))))))), ?_⟩
      walk_at "v"
      exact q
    · refine ⟨_, (pss_one (ps_ret (pe_and (pe_callB (call_gIsi (K := K) rfl) (by rfl) T.n_isinstance (by decide +kernel) (pa_cons (pv 0) (pa_cons (pe_bltn (v := .ty "int") (by rfl) T.n_int (by decide +kernel) rfl) pa_nil))) (pe_one (pe_not (pe_callB (call_gIsi (K := K) rfl) (by rfl) T.n_isinstance (by decide +kernel) (pa_cons (pv 0) (pa_cons (pe_bltn (v := .ty "bool") (by rfl) T.n_bool (by decide +kernel) rfl) pa_nil)))))))), ?_⟩
      walk_at "v"
      exact q
    · refine ⟨_, (pss_one (ps_ret (pe_and (pe_callB (call_gIsi (K := K) rfl) (by rfl) T.n_isinstance (by decide +kernel) (pa_cons (pv 0) (pa_cons (pe_bltn (v := .ty "int") (by rfl) T.n_int (by decide +kernel) rfl) pa_nil))) (pe_one (pe_not (pe_callB (call_gIsi (K := K) rfl) (by rfl) T.n_isinstance (by decide +kernel) (pa_cons (pv 0) (pa_cons (pe_bltn (v := .ty "bool") (by rfl) T.n_bool (by decide +kernel) rfl) pa_nil)))))))), ?_⟩
      walk_at "v"
      exact q
local macro_rules | `(tactic| walk_at "v1") => `(tactic| (with_reducible refine c_isint ?_))
/-! law_equal -/
def sp_law_equal (K : PySem.W.Frag) (A : Ad) : Sp := fun vs H Q _ => ∃ (p d : Addr) (g : Str → Int) (m : List (Str × Int)) (fr : List Asn), vs = [.ref p, .ref d] ∧ (keys m).Nodup ∧ m.length < 64 ∧ num m = g ∧ Sep (Co p A.c_Counts g :: At d (.dK (mp m)) :: fr) H ∧ ∀ H', Sep (Co p A.c_Counts g :: At d (.dK (mp m)) :: fr) H' → Q (.bl true) H'
theorem ok_law_equal (T : Txt K mg A) : FnOk P w K mg base CX0 5 A.f_law_equal A.fd_law_equal ["counts", "model"] (sp_law_equal K A) := by
  refine T.F_law_equal.ok sc_law_equal (fun vs H Q E h => ?_) (fun cdv A' outer s0 H vs Q E hr h => ?_)
  · obtain ⟨p, d, g, m, fr, rfl, _⟩ := h
    rfl
  · obtain ⟨p, d, g, m, fr, rfl, hn, hz, hg, S, k⟩ := h
    have kl := T.kl_Counts
    refine ⟨_, (pss_cons (ps_set (i := 2) sc_law_equal.nd rfl (.inl rfl) (pe_methR0 (pv 0) T.kl_Counts.c T.mt_Counts_pairs (raw0 (K := K) (ok_Counts_pairs (K := K) T) T.b_Counts_pairs) (hr.mono (by decide)) pass0))
      (pss_cons (ps_if (PW.pt (pw_or (pt_not (pt_val (pe_callB (call_gIsi (K := K) rfl) (by rfl) T.n_isinstance (by decide +kernel) (pa_cons (pv 2) (pa_cons (pe_bltn (v := .ty "list") (by rfl) T.n_list (by decide +kernel) rfl) pa_nil))))) (pw_or1 (pt_cmpR (op_gNe (K := K) rfl hr.units) (pv 2) (pe_call (ok_law_told T) (hr.mono (by decide)) rfl T.m_law_told T.k_law_told T.b_law_told .nil pass0 (pa_cons (pv 1) pa_nil)) (nomark _))))) (pss_one (ps_ret pe_bl)) pss_nil)
      (pss_cons (ps_for PassesOwn.never rfl (pi_gList (K := K) rfl (pv 2)) (pg_name (i := 3) sc_law_equal.nd rfl (.inl rfl)) (pss_one (ps_if (PW.pt (pw_or (pt_not (pt_val (pe_callB (call_gIsi (K := K) rfl) (by rfl) T.n_isinstance (by decide +kernel) (pa_cons (pv 3) (pa_cons (pe_bltn (v := .ty "tuple") (by rfl) T.n_tuple (by decide +kernel) rfl) pa_nil))))) (pw_or1 (pt_not (pt_val (pe_call (ok_law_is_integer T) (hr.mono (by decide)) rfl T.m_law_is_integer T.k_law_is_integer T.b_law_is_integer .nil pass0 (pa_cons (pe_ix (ix_g (K := K) rfl) (pv 3) pe_int (fun _ _ => rfl)) pa_nil))))))) (pss_one (ps_ret pe_bl)) pss_nil)))
      (pss_one (ps_ret pe_bl))))), ?_⟩
    walk_at "v"
    rename_i a1 L1 H1 ht1 hw1 hl1 S1 a2 M1 H2 ht2 hl2 S2
    have eL : L1 = M1 := told_same ht1 (hg ▸ ht2)
    subst eL
    refine ne_pds S2 (hasS has0) has0 hw1 hw1 ?_
    rw [decide_eq_true (rfl : L1 = L1)]
    obtain ⟨vs, hvs, S3⟩ := ld_open (S2.pick (i := 1) rfl)
    clear S S1 S2
    walk_at "v"
    refine forL S3 has0 (fun i σ H => ∃ b, σ = [some (.ref p), some (.ref d), some (.ref a1), b] ∧ Sep (At a1 (.lst vs) :: DVs vs (pds L1) :: Co p A.c_Counts g :: At d (.dK (mp m)) :: fr) H) ⟨_, rfl, S3.dr2⟩ (fun i σ H ⟨b, _, S'⟩ => S'.at (i := 0) rfl) ?_ ?_
    · rintro i x σ H3 hx ⟨b, rfl, S4⟩
      obtain ⟨q, y, ey, rfl, hq⟩ := ps_get (S4.dvs (i := 1) rfl) hx
      have S5 := S4.addT hq
      clear S3 S4
      walk_at "v"
      exact ⟨_, rfl, S5.tail⟩
    · rintro σ H3 ⟨b, rfl, S4⟩
      clear S3
      walk_at "v"
      exact k _ S4.tail.tail
theorem c_equal {K : PySem.W.Frag} {A : Ad} {l : List Asn} {H : Hp} {i j : Nat} {p d : Addr} {g : Str → Int} {m : List (Str × Int)} {Q : VK} {E : XK} (S : Sep l H) (e : l[i]? = some (Co p A.c_Counts g)) (e2 : (l.eraseIdx i)[j]? = some (At d (.dK (mp m)))) (hn : (keys m).Nodup) (hz : m.length < 64) (hg : num m = g) (k : ∀ H', Sep l H' → Q (.bl true) H') : sp_law_equal K A [.ref p, .ref d] H Q E :=
  ⟨p, d, g, m, (l.eraseIdx i).eraseIdx j, rfl, hn, hz, hg, Sep.fr1 (show Sep (At d (.dK (mp m)) :: Co p A.c_Counts g :: (l.eraseIdx i).eraseIdx j) H from (S.pick e).pick (i := j + 1) e2), fun H' S' => k H' (Sep.backS e (Sep.backS (i := j + 1) (l := Co p A.c_Counts g :: l.eraseIdx i) e2 S'.fr1))⟩
local macro_rules | `(tactic| walk_at "v1") => `(tactic| ((with_reducible refine' c_equal (by assumption) ?hi ?hj ?hn ?hz ?hg ?_); (case hi => walk_at "has"); (case hj => walk_at "has"); (case hn => assumption); (case hz => omega); (case hg => (first | assumption | rfl)); intro _ _))
theorem c_equalM {K : PySem.W.Frag} {A : Ad} {l : List Asn} {H : Hp} {i j : Nat} {p d : Addr} {g F : Str → Int} {n : Nat} {Q : VK} {E : XK} (S : Sep l H) (e : l[i]? = some (Co p A.c_Counts g)) (e2 : l[j]? = some (Md d F n)) (hz : n < 64) (hF : F = g) (k : ∀ H', Sep l H' → Q (.bl true) H') : sp_law_equal K A [.ref p, .ref d] H Q E := by
  have hne := co_ne_md S e e2
  obtain ⟨m, h1, h2, h3, S1⟩ := S.md e2
  have e3 := erase_get (Ne.symm hne) e
  refine ⟨p, d, g, m, _, rfl, h1, by omega, h3.trans hF, S1.pick (i := (if i < j then i else i - 1) + 1) e3, fun H' S' => k H' (Sep.mdBack e2 h1 h2 h3 ?_)⟩
  exact Sep.backS (i := (if i < j then i else i - 1) + 1) (l := At d (.dK (mp m)) :: l.eraseIdx j) e3 S'
local macro_rules | `(tactic| walk_at "v1") => `(tactic| ((with_reducible refine' c_equalM (by assumption) ?hi ?hj ?hz ?hF ?_); (case hi => walk_at "has"); (case hj => walk_at "has"); (case hz => (first | omega | assumption | decide)); (case hF => (first | assumption | rfl)); intro _ _))
theorem c_equalQ {K : PySem.W.Frag} {A : Ad} {l : List Asn} {H : Hp} {i j : Nat} {p d : Addr} {g F : Str → Int} {ws : List Str} {Q : VK} {E : XK} (S : Sep l H) (e : l[i]? = some (Co p A.c_Counts g)) (e2 : l[j]? = some (Mq d F ws)) (hne : i ≠ j) (hz : ws.length < 64) (hF : F = g) (k : ∀ H', Sep l H' → Q (.bl true) H') : sp_law_equal K A [.ref p, .ref d] H Q E := by
  obtain ⟨m, h1, h2, h3, S1⟩ := S.mq e2
  have e3 := erase_get (Ne.symm hne) e
  have h4 := keys_le h1 h2
  refine ⟨p, d, g, m, _, rfl, h1, by omega, h3.trans hF, S1.pick (i := (if i < j then i else i - 1) + 1) e3, fun H' S' => k H' (Sep.mqBack e2 h1 h2 h3 ?_)⟩
  exact Sep.backS (i := (if i < j then i else i - 1) + 1) (l := At d (.dK (mp m)) :: l.eraseIdx j) e3 S'
local macro_rules | `(tactic| walk_at "v1") => `(tactic| ((with_reducible refine' c_equalQ (by assumption) ?hi ?hj ?hne ?hz ?hF ?_); (case hi => walk_at "has"); (case hj => walk_at "has"); (case hne => (first | decide | omega)); (case hz => (first | omega | assumption | decide)); (case hF => (first | assumption | rfl)); intro _ _))
/-! law_commas -/
def sp_law_commas : Sp := fun vs H Q _ => ∃ (n : Int) (fr : List Asn), vs = [.int n] ∧ n.natAbs < 10 ^ 40 ∧ Sep fr H ∧ ∀ H', Sep fr H' → Q (.str (cm n)) H'
theorem ok_law_commas (T : Txt K mg A) : FnOk P w K mg base CX0 1 A.f_law_commas A.fd_law_commas ["number"] (sp_law_commas) := by
  refine T.F_law_commas.ok sc_law_commas (fun vs H Q E h => ?_) (fun cdv A' outer s0 H vs Q E hr h => ?_)
  · obtain ⟨n, fr, rfl, _⟩ := h
    rfl
  · obtain ⟨n, fr, rfl, hn, S, k⟩ := h
    refine ⟨_, (pss_cons (ps_set (i := 1) sc_law_commas.nd rfl (.inl rfl) (pe_callTy call_str_int (by rfl) T.n_str (by decide +kernel) (pa_cons (pe_callB call_gAbs (by rfl) T.n_abs (by decide +kernel) (pa_cons (pv 0) pa_nil)) pa_nil)))
      (pss_cons (ps_set (i := 2) sc_law_commas.nd rfl (.inl rfl) (pe_lst pa_nil))
      (pss_cons (ps_while PassesOwn.never (pt_cmpR op_gGt (pe_callB (call_gLen (K := K) rfl) (by rfl) T.n_len (by decide +kernel) (pa_cons (pv 1) pa_nil)) pe_int (nomark _)) (pss_cons (ps_set (i := 2) sc_law_commas.nd rfl (.inl rfl) (pe_op op_gAdd (pe_lst (pa_cons (pe_slice (sl_g (K := K) rfl) (pv 1) (po_some (pe_un un_gNeg pe_int)) po_none) pa_nil)) (pv 2)))
      (pss_one (ps_set (i := 1) sc_law_commas.nd rfl (.inl rfl) (pe_slice (sl_g (K := K) rfl) (pv 1) po_none (po_some (pe_un un_gNeg pe_int)))))))
      (pss_cons (ps_set (i := 3) sc_law_commas.nd rfl (.inl rfl) (pe_gJoin (K := K) rfl pe_str (pe_op op_gAdd (pe_lst (pa_cons (pv 1) pa_nil)) (pv 2))))
      (pss_one (ps_ret (pe_ifExp (pt_cmpR op_gLt (pv 0) pe_int (nomark _)) (pe_op op_gAdd pe_str (pv 3)) (pv 3)))))))), ?_⟩
    walk_at "v"
    refine ⟨_, rfl, by rw [Int.natAbs_natCast]; exact log_40 hn, ?_⟩
    have hl1 : 1 ≤ (Nat.toDigits 10 n.natAbs).length := PyProof.Rows.tDigits_len_ge 10 n.natAbs
    have hl2 : (Nat.toDigits 10 n.natAbs).length ≤ 40 := PyProof.Rows.digits10_le (by decide) hn
    have et : Str.ofString (toString ((n.natAbs : Nat) : Int)) = tx ((Nat.toDigits 10 n.natAbs).map Char.toNat) := PyProof.Rows.text_ofNat n.natAbs
    rw [et]
    obtain ⟨ds, hds⟩ : ∃ ds, ds = (Nat.toDigits 10 n.natAbs).map Char.toNat := ⟨_, rfl⟩
    have hdl : ds.length = (Nat.toDigits 10 n.natAbs).length := by rw [hds, List.length_map]
    have htg : cmL n = (if n < 0 then [45] else []) ++ grp (ds.length + 1) ds.reverse [] := by rw [hds, List.length_map]; rfl
    rw [← hds]
    clear et hds
    generalize hT : grp (ds.length + 1) ds.reverse [] = tg at htg
    walk_at "v"
    rename_i g0 H1 S1
    refine ⟨fun m σ H => ∃ (e : List Nat) (gs : List (List Nat)) (g : Addr) (t : Nat), m = e.length ∧ σ = [some (.int n), some (.str (tx e)), some (.ref g), none] ∧ 1 ≤ e.length ∧ e.length ≤ 40 ∧ e.length ≤ 3 * t ∧ e.length + gs.length ≤ 40 ∧ (∀ x ∈ gs, x.length = 3) ∧ grp t e.reverse (gs.flatMap (44 :: ·)) = tg ∧ Sep (At g (.lst (gs.map fun x => .str (tx x))) :: fr) H, ⟨_, ds, [], g0, ds.length + 1, rfl, rfl, by omega, by omega, by omega, by rw [List.length_nil]; omega, fun x hx => (nomatch hx), hT, S1⟩, ?_⟩
    rintro m σ H2 ⟨e, gs, g, t, rfl, rfl, h1, h40, h3t, h4, hg3, ht, S2⟩
    clear S1 hT
    have hel := tx_len e
    walk_at "v"
    refine c_lenS (by rw [hel]; exact Nat.le_trans (m := 1000) (by omega) (by decide)) ?_
    walk_at "v"
    by_cases c : e.length ≤ 3
    · rw [if_neg (by rw [hel, decide_eq_false (by omega)]; decide)]
      rw [grp_end c (by omega)] at ht
      walk_at "v"
      rename_i L1 H3 S3
      refine o_cat S3 has0 (hasS has0) (by rw [List.length_map, List.length_singleton]; exact Nat.le_trans (m := 1000) (by omega) (by decide)) fun L2 H4 S4 => ?_
      have ej : ([V.str (tx e)] ++ gs.map fun x => V.str (tx x)) = ((e :: gs).map tx).map V.str := by rw [List.map_map]; rfl
      rw [ej] at S4
      refine c_join (B := 40) S4 has0 (fun y hy => ?_) (by rw [List.length_map, List.length_cons]; have : (gs.length + 1) * 40 ≤ 41 * 40 := Nat.mul_le_mul_right _ (by omega); have : (gs.length + 1) * ("," : Str).length ≤ 41 * 1 := Nat.mul_le_mul (by omega) (by decide +kernel); omega) ?_
      · obtain ⟨x, hx, rfl⟩ := List.mem_map.1 hy
        rw [tx_len]
        rcases List.mem_cons.1 hx with rfl | hx
        · exact h40
        · rw [hg3 x hx]; decide
      rw [tx_join, ht]
      have hcm : cm n = tx ((if n < 0 then [45] else []) ++ tg) := by unfold cm; rw [htg]; rfl
      have S5 := S4.drops [0, 0, 0]
      clear S2 S3 S4
      walk_at "v"
      by_cases c0 : n < 0
      · rw [if_pos (decide_eq_true c0)]
        rw [if_pos c0] at hcm
        have hcl := cm_len hn
        rw [hcm, tx_len, List.length_append] at hcl
        walk_at "v"
        have h11 : ("-" : Str).length ≤ 1 := by decide +kernel
        refine o_addS (by rw [tx_len]; exact Nat.le_trans (m := 1000) (by omega) (by decide)) ?_
        have e9 : ("-" : Str) ++ tx tg = cm n := by
          rw [hcm, tx_app]
          congr 1
        rw [e9]
        exact k _ S5
      · rw [if_neg (by rw [decide_eq_false c0]; decide)]
        rw [if_neg c0, List.nil_append] at hcm
        walk_at "v"
        rw [← hcm]
        exact k _ S5
    · rw [if_pos (by rw [hel]; exact decide_eq_true (by omega))]
      refine ⟨fun σ' H' => ∃ m', m' < e.length ∧ ∃ (e2 : List Nat) (gs : List (List Nat)) (g : Addr) (t : Nat), m' = e2.length ∧ σ' = [some (.int n), some (.str (tx e2)), some (.ref g), none] ∧ 1 ≤ e2.length ∧ e2.length ≤ 40 ∧ e2.length ≤ 3 * t ∧ e2.length + gs.length ≤ 40 ∧ (∀ x ∈ gs, x.length = 3) ∧ grp t e2.reverse (gs.flatMap (44 :: ·)) = tg ∧ Sep (At g (.lst (gs.map fun x => .str (tx x))) :: fr) H', fun σ' H' z => z, ?_⟩
      obtain ⟨p, q, rfl, hq⟩ : ∃ p q : List Nat, e = p ++ q ∧ q.length = 3 := ⟨e.take (e.length - 3), e.drop (e.length - 3), (List.take_append_drop _ _).symm, by rw [List.length_drop]; omega⟩
      have hpl : 1 ≤ p.length := by rw [List.length_append] at c; omega
      cases t with
      | zero => rw [List.length_append] at h1 h3t; omega
      | succ t =>
        rw [grp_cut hq hpl] at ht
        have hpq : (p ++ q).length = p.length + 3 := by rw [List.length_append, hq]
        have hz : (tx (p ++ q)).length ≤ sizeLine := by rw [hel]; exact Nat.le_trans (m := 1000) (by omega) (by decide)
        walk_at "v"
        refine s_str hz ?_
        rw [tx_suf hq]
        walk_at "v"
        rename_i L1 H3 S3
        refine o_cat S3 has0 (hasS has0) (by rw [List.length_map, List.length_singleton]; exact Nat.le_trans (m := 1000) (by omega) (by decide)) fun L2 H4 S4 => ?_
        walk_at "v"
        refine s_str hz ?_
        rw [tx_pre hq]
        walk_at "v"
        refine ⟨_, ?_, p, q :: gs, L2, t, rfl, rfl, hpl, by omega, by omega, by rw [List.length_cons]; omega, fun x hx => ?_, ?_, S4.drops [1, 1]⟩
        · omega
        · rcases List.mem_cons.1 hx with rfl | hx
          · exact hq
          · exact hg3 x hx
        · rw [List.flatMap_cons]
          exact ht
theorem c_commas {l : List Asn} {H : Hp} {n : Int} {Q : VK} {E : XK} (S : Sep l H) (hn : n.natAbs < 10 ^ 40) (k : ∀ H', Sep l H' → Q (.str (cm n)) H') : sp_law_commas [.int n] H Q E := ⟨n, l, rfl, hn, S, k⟩
/-! law_line -/
--needs law_commas
def lineT (w : Str) (n : Int) : Str := Txt.ljust w 8 ++ Txt.rjust (cm n) 8
def sp_law_line : Sp := fun vs H Q _ => ∃ (w : Str) (n : Int) (fr : List Asn), vs = [.str w, .int n] ∧ w.length ≤ 1000 ∧ n.natAbs < 10 ^ 40 ∧ Sep fr H ∧ ∀ H', Sep fr H' → Q (.str (lineT w n)) H'
theorem ok_law_line (T : Txt K mg A) : FnOk P w K mg base CX0 3 A.f_law_line A.fd_law_line ["word", "number"] (sp_law_line) := by
  refine T.F_law_line.ok sc_law_line (fun vs H Q E h => ?_) (fun cdv A' outer s0 H vs Q E hr h => ?_)
  · obtain ⟨w, n, fr, rfl, _⟩ := h
    rfl
  · obtain ⟨w, n, fr, rfl, hw, hn, S, k⟩ := h
    refine ⟨_, (pss_one (ps_ret (pe_op op_gAdd (pe_gBm (K := K) rfl PySem.F.plainAttrs_str PySem.F.slot_str_ljust PySem.F.type_str_ljust mt_gLju (pv 0) (pa_cons pe_int pa_nil)) (pe_gBm (K := K) rfl PySem.F.plainAttrs_str PySem.F.slot_str_rjust PySem.F.type_str_rjust mt_gRju (pe_call (ok_law_commas T) (hr.mono (by decide)) rfl T.m_law_commas T.k_law_commas T.b_law_commas .nil pass0 (pa_cons (pv 1) pa_nil)) (pa_cons pe_int pa_nil))))), ?_⟩
    walk_at "v"
    refine m_tyS ?_
    walk_at "v"
    refine c_commas S hn fun H1 S1 => ?_
    refine m_tyS ?_
    walk_at "v"
    refine o_addS (by have h1 := (pad_len (x := cm n)).1; have h2 := (pad_len (x := w)).2; have := cm_len hn; exact Nat.le_trans (m := 10000) (by omega) (by decide)) ?_
    exact k _ S1
theorem c_line {l : List Asn} {H : Hp} {w : Str} {n : Int} {Q : VK} {E : XK} (S : Sep l H) (hw : w.length ≤ 1000) (hn : n.natAbs < 10 ^ 40) (k : ∀ H', Sep l H' → Q (.str (lineT w n)) H') : sp_law_line [.str w, .int n] H Q E := ⟨w, n, l, rfl, hw, hn, S, k⟩
theorem line_len {w : Str} {n : Int} (hw : w.length ≤ 1000) (hn : n.natAbs < 10 ^ 40) : (lineT w n).length ≤ 2000 := by
  have h1 := (pad_len (x := cm n)).1
  have h2 := (pad_len (x := w)).2
  have := cm_len hn
  unfold lineT
  rw [str_len_app]
  omega
/-! Counts_columns -/
--needs law_line Counts_words
def colT (g : Str → Int) (us : List Str) : Str := Txt.join "\n" (us.map fun w => lineT w (g w))
theorem f_coN {l : List Asn} {H : Hp} {K : PySem.W.Frag} {Q : VK} {i : Nat} {p C : Addr} {g : Str → Int} (S : Sep l H) (hi : l[i]? = some (Co p C g)) (hC : Kl K C cNs) (k : ∀ d m, H d = some (.dK (mp m)) → num m = g → Q (.ref d) H) : gFldR K "_numbers" (.ref p) H Q := by
  obtain ⟨d, m, hG, e, S1⟩ := S.co hi
  obtain ⟨dx, h⟩ := ob_at S1 (e := 0) rfl
  exact ⟨p, C, dx, _, _, rfl, h, hC.c, hC.n "_numbers" (by decide), lk0, k d m (S1.at (i := 1) rfl) e⟩
theorem Sep.dropPre {fr : List Asn} {H : Hp} : ∀ F : List Asn, Sep (F ++ fr) H → Sep fr H
  | [], S => S
  | _ :: F, S => Sep.dropPre F S.tail
def sp_Counts_columns (K : PySem.W.Frag) (A : Ad) : Sp := fun vs H Q _ => ∃ (p t : Addr) (ws : List Str) (g : Str → Int) (i j : Nat) (fr : List Asn), vs = [.ref p, .ref t] ∧ fr[i]? = some (Co p A.c_Counts g) ∧ fr[j]? = some (Tp t (ws.map V.str)) ∧ ws.length ≤ 500 ∧ (∀ w ∈ ws, w.length ≤ 100) ∧ (∀ w, (g w).natAbs < 10 ^ 40) ∧ Sep fr H ∧ ∀ us H', (ws ≠ [] → us = ws) → (ws = [] → Asc us ∧ ∀ w, w ∈ us ↔ g w ≠ 0) → Sep fr H' → Q (.str (colT g us)) H'
theorem okR_Counts_columns (T : Txt K mg A) : FnR P w K mg base CX0 5 A.f_Counts_columns (stSp 1 (sp_Counts_columns K A)) := by
  refine fun_star (ps := ["self"]) (pv := "words") T.F_Counts_columns sc_Counts_columns (fun kV doc pm an cdv ct => StX.bind_star1 (B := fun vs => bindArgs (PySem.W.fnOf "columns" "Counts.columns" (defArgs s_Counts_columns) (defBody s_Counts_columns) (defScope s_Counts_columns) .none kV doc pm an cdv ct) ⟨vs, []⟩) (fun a => rfl) (fun a r rs => rfl)) (fun cdv A' outer s0 H vs Q E hr h => ?_)
  · obtain ⟨p, t, ws, g, i0, j0, fr, rfl, hi, hj, h5, hw, hg, S, k⟩ := h
    have kl := T.kl_Counts
    refine ⟨_, (pss_cut (ps_set (i := 2) sc_Counts_columns.nd rfl (.inl rfl) (pe_ifExp (pt_tr (K := K) rfl (pv 1)) (pv 1) (pe_callTy (call_gTuple (K := K) rfl) (by rfl) T.n_tuple (by decide +kernel) (pa_cons (pe_methR0 (pv 0) T.kl_Counts.c T.mt_Counts_words (raw0 (K := K) (ok_Counts_words (K := K) T) T.b_Counts_words) (hr.mono (by decide)) pass0) pa_nil))))
      (pss_one (ps_ret (pe_gJoin (K := K) rfl pe_str (pe_lc (own := [("word", 3)]) (g := (gName 3)) rfl sc_Counts_columns.nd (pi_gTup (K := K) rfl (pv 2)) (blkOk_by (N := ["self", "words", "shown", "word"]) (sc := defScope s_Counts_columns) (by decide +kernel)) (fun _ _ _ _ _ => (pg_name (i := 3) sc_Counts_columns.nd rfl (.inl rfl))) (fun _ _ _ _ _ => pts_nil) (fun _ _ _ _ _ => (pe_joined (PJ.cons (pe_fmtS (pv 3) (pe_joined1 pe_str)) (PJ.cons (pe_fmtS (pe_dget2 (hu_of hr) (pe_gFld (K := K) rfl (pv 0) rfl) (pv 3) pe_int ⟨by rfl, by rfl, by rfl, by rfl⟩) (pe_joined1 pe_str)) PJ.nil))))))))), ?_⟩
    refine r_cut (fun σ H => ∃ (d : Addr) (us : List Str) (F : List Asn), σ = [some (.ref p), some (.ref t), some (.ref d), none] ∧ (ws ≠ [] → us = ws) ∧ (ws = [] → Asc us ∧ ∀ w, w ∈ us ↔ g w ≠ 0) ∧ us.length ≤ 500 ∧ (∀ w ∈ us, w.length ≤ 100) ∧ Sep (Tp d (us.map V.str) :: (F ++ fr)) H) ?_ ?_
    · walk_at "v"
      cases ew : ws with
      | nil =>
        refine ⟨false, .inr (.inl ⟨_, SqT.of (S.tp hj), by subst ew; rfl⟩), ?_⟩
        rw [if_neg (by decide)]
        walk_at "v"
        rename_i D ys H1 hasc hmem hwd hlen S1 E1 H2 S2
        exact ⟨E1, ys, [_], rfl, fun z => (z rfl).elim, fun _ => ⟨hasc, hmem⟩, hlen, fun w hw => by have := (hwd w hw).2.1; omega, S2⟩
      | cons w0 wr =>
        refine ⟨true, .inr (.inl ⟨_, SqT.of (S.tp hj), by rw [ew]; rfl⟩), ?_⟩
        rw [if_pos rfl, ← ew]
        walk_at "v"
        exact ⟨t, ws, [], rfl, fun _ => rfl, fun z => (by rw [ew] at z; cases z), h5, hw, S.addT (S.tp hj)⟩
    rintro σ H1 ⟨d, us, F, rfl, h1, h2, h3, h4, S1⟩
    walk_at "v"
    have hul : (us.map V.str).length = us.length := List.length_map _
    refine lcT S1 has0 (fun B n H' => Sep (At B (.lst (((us.take n).map fun w => lineT w (g w)).map V.str)) :: Tp d (us.map V.str) :: (F ++ fr)) H') (fun D H' S' => S') (fun D n H' S' => S'.tp (i := 1) rfl) ?_ ?_
    · rintro B n v H2 hv S2
      rw [List.getElem?_map] at hv
      obtain ⟨w, ew, rfl⟩ := Option.map_eq_some_iff.1 hv
      have hnl := get_lt ew
      have hwl := h4 w (List.mem_of_getElem? ew)
      have hll := line_len (w := w) (n := g w) (by omega) (hg w)
      refine lc_turn ?_
      walk_at "v"
      refine .inl ⟨w, rfl, rfl, by omega, _, rfl, ?_, ?_⟩
      · have := (pad_len (x := w)).2
        rw [str_len_app]
        exact Nat.le_trans (m := 10000) (by have : Str.empty.length = 0 := rfl
                                            omega) (by decide)
      walk_at "v"
      refine f_coN S2 (hasS (hasS (app_get hi))) kl fun dd m hdd hgm => ?_
      refine ⟨dd, rfl, .inl ⟨_, .inl hdd⟩, ?_⟩
      walk_at "v"
      refine get0_of (.inl hdd) fun o ho => ?_
      rw [ho, hgm]
      have hgw := hg w
      refine .inr ⟨g w, rfl, rfl, log_40 hgw, ?_, _, rfl, ?_, ?_⟩
      · have h1 := (pad_len (x := cm (g w))).1
        have h2 := cm_len hgw
        exact Nat.le_trans (m := 10000) (by omega) (by decide)
      · have h1 := (pad_len (x := cm (g w))).1
        have h2 := cm_len hgw
        have h3 := (pad_len (x := w)).2
        rw [str_len_app, str_len_app]
        exact Nat.le_trans (m := 10000) (by have : Str.empty.length = 0 := rfl
                                            omega) (by decide)
      have e0 : Str.empty ++ Txt.ljust w 8 ++ Txt.rjust (cm (g w)) 8 = lineT w (g w) := by
        refine str_eq_of ?_
        unfold lineT
        rw [cps_app, cps_app, cps_app]
        rfl
      rw [e0]
      walk_at "v"
      rename_i S3
      rw [take_snoc ew, List.map_append, List.map_append]
      exact S3
    · rintro B H2 S2
      rw [hul, List.take_length] at S2
      clear S1
      walk_at "v"
      refine c_join (B := 2000) S2 has0 (fun y hy => ?_) (by rw [List.length_map]; have : us.length * 2000 ≤ 500 * 2000 := Nat.mul_le_mul_right _ h3; have : us.length * ("\n" : Str).length ≤ 500 * 1 := Nat.mul_le_mul h3 (by decide +kernel); omega) ?_
      · obtain ⟨w, hw', rfl⟩ := List.mem_map.1 hy
        exact line_len (by have := h4 w hw'; omega) (hg w)
      · exact k us _ h1 h2 (Sep.dropPre F S2.tail.tail)
theorem c_columns {K : PySem.W.Frag} {A : Ad} {l : List Asn} {H : Hp} {i j : Nat} {p t : Addr} {ws : List Str} {g : Str → Int} {Q : VK} {E : XK} (S : Sep l H) (hi : l[i]? = some (Co p A.c_Counts g)) (hj : l[j]? = some (Tp t (ws.map V.str))) (h5 : ws.length ≤ 500) (hw : ∀ w ∈ ws, w.length ≤ 100) (hg : ∀ w, (g w).natAbs < 10 ^ 40) (k : ∀ us H', (ws ≠ [] → us = ws) → (ws = [] → Asc us ∧ ∀ w, w ∈ us ↔ g w ≠ 0) → Sep l H' → Q (.str (colT g us)) H') : sp_Counts_columns K A [.ref p, .ref t] H Q E :=
  ⟨p, t, ws, g, i, j, l, rfl, hi, hj, h5, hw, hg, S, k⟩
theorem c_col {K : PySem.W.Frag} {A : Ad} {l : List Asn} {H : Hp} {i : Nat} {p : Addr} {ws : List Str} {g : Str → Int} {Q : VK} {E : XK} (S : Sep l H) (hi : l[i]? = some (Co p A.c_Counts g)) (h5 : ws.length ≤ 500) (hw : ∀ w ∈ ws, w.length ≤ 100) (hg : ∀ w, (g w).natAbs < 10 ^ 40) (k : ∀ us H', (ws ≠ [] → us = ws) → (ws = [] → Asc us ∧ ∀ w, w ∈ us ↔ g w ≠ 0) → Sep l H' → Q (.str (colT g us)) H') : stSp 1 (sp_Counts_columns K A) ([V.ref p] ++ ws.map V.str) H Q E :=
  st_call (ws := [V.ref p]) (rest := ws.map V.str) S (by rw [List.length_map]; omega) fun t H2 S2 => c_columns S2 (hasS hi) has0 h5 hw hg fun us H' a b S' => k us H' a b S'.tail
/-! Counts___repr__ -/
def rowT (x : Str × Int) : Str := Str.empty ++ x.1 ++ "=" ++ Str.ofString (toString x.2)
def reprT (L : List (Str × Int)) : Str := Str.empty ++ "Counts(" ++ Txt.join ", " (L.map rowT) ++ ")"
def sp_Counts___repr__ (K : PySem.W.Frag) (A : Ad) : Sp := fun vs H Q _ => ∃ (p : Addr) (g : Str → Int) (i : Nat) (fr : List Asn), vs = [.ref p] ∧ fr[i]? = some (Co p A.c_Counts g) ∧ (∀ w, (g w).natAbs < 2 ^ 1000) ∧ Sep fr H ∧
  ∀ (L : List (Str × Int)) (H' : Hp), Told g L → (reprT L).length ≤ 2000000 → Sep fr H' → Q (.str (reprT L)) H'
theorem ok_Counts___repr__ (T : Txt K mg A) : FnOk P w K mg base CX0 5 A.f_Counts___repr__ A.fd_Counts___repr__ ["self"] (sp_Counts___repr__ K A) := by
  refine T.F_Counts___repr__.ok sc_Counts___repr__ (fun vs H Q E h => ?_) (fun cdv A' outer s0 H vs Q E hr h => ?_)
  · obtain ⟨p, g, i, fr, rfl, _⟩ := h
    rfl
  · obtain ⟨p, g, i, fr, rfl, hi, hb, S, k⟩ := h
    have kl := T.kl_Counts
    refine ⟨_, (pss_cons (ps_set (i := 1) sc_Counts___repr__.nd rfl (.inl rfl) (pe_gJoin (K := K) rfl pe_str (pe_lc (own := [("word", 2), ("number", 3)]) (g := (gTup K 2 (gCons (gName 2) (gCons (gName 3) gNil)))) rfl sc_Counts___repr__.nd (pi_gList (K := K) rfl (pe_methR0 (pv 0) T.kl_Counts.c T.mt_Counts_pairs (raw0 (K := K) (ok_Counts_pairs (K := K) T) T.b_Counts_pairs) (hr.mono (by decide)) pass0)) (blkOk_by (N := ["self", "inner", "word", "number"]) (sc := defScope s_Counts___repr__) (by decide +kernel)) (fun _ _ _ _ _ => (pg_gTup (K := K) rfl rfl (pgs_cons (pg_name (i := 2) sc_Counts___repr__.nd rfl (.inl rfl)) (pgs_cons (pg_name (i := 3) sc_Counts___repr__.nd rfl (.inl rfl)) pgs_nil)))) (fun _ _ _ _ _ => pts_nil) (fun _ _ _ _ _ => (pe_joined (PJ.cons (pe_fmt (pv 2)) (PJ.cons pe_str (PJ.cons (pe_fmt (pv 3)) PJ.nil))))))))
      (pss_one (ps_ret (pe_joined (PJ.cons pe_str (PJ.cons (pe_fmt (pv 1)) (PJ.cons pe_str PJ.nil))))))), ?_⟩
    walk_at "v"
    rename_i d L H1 ht hw hl S1
    obtain ⟨vs, hvs, S2⟩ := ld_open S1
    have hvl := ps_len hvs
    clear S S1
    have hrow : ∀ x ∈ L, (rowT x).length ≤ 1100 := fun x hx => by
      have h1 := (hw x hx).2.1
      have h2 : (Str.ofString (toString x.2)).length ≤ 1000 + 1 := int_len (by decide) (by rw [ht.2.2 x hx]; exact hb x.1)
      unfold rowT
      rw [str_len_app, str_len_app, str_len_app]
      have e0 : Str.empty.length = 0 := rfl
      have e1 : ("=" : Str).length = 1 := rfl
      omega
    refine lcL S2 has0 (fun B i H => Sep (At B (.lst (((L.take i).map rowT).map V.str)) :: At d (.lst vs) :: DVs vs (pds L) :: fr) H) (fun B H' S' => S') (fun B i H S' => S'.at (i := 1) rfl) ?_ ?_
    · rintro B i' x H6 hx S4
      obtain ⟨q', y, ey, rfl, hq⟩ := ps_get (S4.dvs (i := 2) rfl) hx
      have hy := List.mem_of_getElem? ey
      have hyr := hrow y hy
      have S5 := S4.addT hq
      have hil := get_lt ey
      have h1 := (hw y hy).2.1
      have h2 : (Str.ofString (toString y.2)).length ≤ 1000 + 1 := int_len (by decide) (by rw [ht.2.2 y hy]; exact hb y.1)
      have h3 : y.2.natAbs.log2 < 1920 := Nat.lt_trans (PySem.Flt.log2_lt_of (by decide) (show y.2.natAbs < 2 ^ 1000 by rw [ht.2.2 y hy]; exact hb y.1)) (by decide)
      rw [take_snoc ey, List.map_append, List.map_append]
      have e0 : Str.empty.length = 0 := rfl
      have e1 : ("=" : Str).length = 1 := rfl
      have ez : sizeLine = 16777216 := sizeLine_eq
      clear S2 S4
      refine lc_turn ?_
      walk_at "v"
      refine fmt_s (by omega) ?_
      refine js_put (by omega) ?_
      walk_at "v"
      refine js_put (by rw [str_len_app]; omega) ?_
      walk_at "v"
      refine fmt_i h3 ?_
      refine js_put (by rw [str_len_app, str_len_app]; omega) ?_
      walk_at "v"
      rename_i S7
      exact S7.tail
    · rintro B H6 S4
      rw [hvl, List.take_length] at S4
      clear S2
      walk_at "v"
      have hj : ∀ y ∈ L.map rowT, y.length ≤ 1100 := fun y hy => by
        obtain ⟨x, hx, e⟩ := List.mem_map.1 hy
        rw [← e]; exact hrow x hx
      have hll : (L.map rowT).length ≤ 500 := by rw [List.length_map]; exact hl
      have hjl := join_len (a := ", ") hj
      have e2 : (", " : Str).length = 2 := rfl
      have e7 : ("Counts(" : Str).length = 7 := rfl
      have e1 : (")" : Str).length = 1 := rfl
      have e0 : Str.empty.length = 0 := rfl
      have ez : sizeLine = 16777216 := sizeLine_eq
      have hjl2 : (Txt.join ", " (L.map rowT)).length ≤ 1000000 := by
        refine Nat.le_trans hjl ?_
        rw [e2]
        omega
      refine c_join S4 has0 hj (by rw [e2]; omega) ?_
      clear hj hll hjl
      generalize hJ : Txt.join ", " (L.map rowT) = J at *
      walk_at "v"
      refine js_put (by omega) ?_
      walk_at "v"
      refine fmt_s (by omega) ?_
      refine js_put (by rw [str_len_app]; omega) ?_
      walk_at "v"
      refine js_put (by rw [str_len_app, str_len_app]; omega) ?_
      walk_at "v"
      have hr : reprT L = Str.empty ++ "Counts(" ++ J ++ ")" := by unfold reprT; rw [hJ]
      refine hr ▸ k L _ ht (by rw [hr, str_len_app, str_len_app, str_len_app]; omega) S4.tail.tail.tail
theorem c_repr {K : PySem.W.Frag} {A : Ad} {l : List Asn} {H : Hp} {i : Nat} {p : Addr} {g : Str → Int} {Q : VK} {E : XK} (S : Sep l H) (e : l[i]? = some (Co p A.c_Counts g)) (hb : ∀ w, (g w).natAbs < 2 ^ 1000)
    (k : ∀ (L : List (Str × Int)) (H' : Hp), Told g L → (reprT L).length ≤ 2000000 → Sep l H' → Q (.str (reprT L)) H') : sp_Counts___repr__ K A [.ref p] H Q E :=
  ⟨p, g, i, l, rfl, e, hb, S, k⟩
/-! law -/
--needs law_line Counts_columns law_pairs law_model Counts_of law_told law_equal Counts___repr__ law_word Counts___init__
theorem psum_b {B : Int} (hB : 0 ≤ B) (w : Str) : ∀ ps : List (Str × Int), (∀ x ∈ ps, -B < x.2 ∧ x.2 < B) → -((ps.length : Int) * B) ≤ psum ps w ∧ psum ps w ≤ (ps.length : Int) * B
  | [], _ => by
    show -((0 : Int) * B) ≤ 0 ∧ (0 : Int) ≤ (0 : Int) * B
    rw [Int.zero_mul]; decide
  | x :: ps, h => by
    obtain ⟨i1, i2⟩ := psum_b hB w ps fun y hy => h y (List.mem_cons_of_mem _ hy)
    obtain ⟨h1, h2⟩ := h x List.mem_cons_self
    have e : psum (x :: ps) w = (if x.1 = w then x.2 else 0) + psum ps w := rfl
    have e2 : (((x :: ps).length : Nat) : Int) * B = (ps.length : Int) * B + B := by
      rw [List.length_cons, Int.natCast_add, Int.add_mul]
      show _ + 1 * B = _
      rw [Int.one_mul]
    rw [e, e2]
    split <;> omega
theorem gp_b {ps : List (Str × Int)} (hg : Gp ps) (hl : ps.length ≤ 8) (w : Str) : (psum ps w).natAbs < 10 ^ 40 := by
  obtain ⟨h1, h2⟩ := psum_b (B := 10 ^ 30) (by decide +kernel) w ps fun x hx => (hg x hx).2
  have h3 : (ps.length : Int) * 10 ^ 30 ≤ 8 * 10 ^ 30 := Int.mul_le_mul_of_nonneg_right (by omega) (by decide +kernel)
  have h4 : (8 : Int) * 10 ^ 30 < 10 ^ 40 := by decide +kernel
  omega
theorem at_m1 {α : Type} {l : List α} {c : α} : atI (l ++ [c]) (-1) = some c := by
  unfold atI ixN
  rw [if_neg (by decide), if_pos (by simp; omega)]
  show (l ++ [c])[_]? = some c
  rw [show ((-1 : Int) + ((l ++ [c]).length : Int)).toNat = l.length by simp only [List.length_append, List.length_cons, List.length_nil]; omega]
  simp
def sp_law (K : PySem.W.Frag) : Sp := fun vs H Q _ => ∃ (a : Addr) (ns : List Int), vs = [.ref a] ∧ SqL K H a (ns.map V.int) ∧ ns.length ≤ 63 ∧ ∀ H', Q (.bl true) H'
theorem ok_law (T : Txt K mg A) : FnOk P w K mg base CX0 9 A.f_law A.fd_law ["script"] (sp_law K) := by
  refine T.F_law.ok sc_law (fun vs H Q E h => ?_) (fun cdv A' outer s0 H vs Q E hr h => ?_)
  · obtain ⟨a, ns, rfl, _⟩ := h
    rfl
  · obtain ⟨a, ns, rfl, hS, hz, k⟩ := h
    have kl := T.kl_Counts
    refine ⟨_, (pss_cons (ps_set (i := 1) sc_law.nd rfl (.inl rfl) (pe_call (ok_law_source T) (hr.mono (by decide)) rfl T.m_law_source T.k_law_source T.b_law_source .nil pass0 (pa_cons (pv 0) pa_nil)))
      (pss_cons (ps_set (i := 2) sc_law.nd rfl (.inl rfl) (pe_call (ok_law_pairs T) (hr.mono (by decide)) rfl T.m_law_pairs T.k_law_pairs T.b_law_pairs .nil pass0 (pa_cons (pv 1) (pa_cons pe_int pa_nil))))
      (pss_cons (ps_set (i := 3) sc_law.nd rfl (.inr rfl) (pe_call (ok_law_model T) (hr.mono (by decide)) rfl T.m_law_model T.k_law_model T.b_law_model .nil pass0 (pa_cons (pv 2) pa_nil)))
      (pss_cons (ps_set (i := 4) sc_law.nd rfl (.inl rfl) (ClX.pe_cmeth (pe_glob (v := .ref A.c_Counts) rfl T.vm_Counts rfl) T.r_Counts T.cm_Counts_of (raw0 (K := K) (ok_Counts_of (K := K) T) T.b_Counts_of) (hr.mono (by decide)) pass0 (pa_cons (pv 2) pa_nil)))
      (pss_cons (ps_set (i := 5) sc_law.nd rfl (.inl rfl) (pe_lst pa_nil))
      (pss_cut (ps_for PassesOwn.never rfl (pi_range1 (by rfl) T.n_range (pa_cons (pe_call (ok_law_draw T) (hr.mono (by decide)) rfl T.m_law_draw T.k_law_draw T.b_law_draw .nil pass0 (pa_cons (pv 1) (pa_cons pe_int pa_nil))) pa_nil)) (pg_name (i := 6) sc_law.nd rfl (.inl rfl)) (pss_cons (ps_set (i := 7) sc_law.nd rfl (.inl rfl) (pe_call (ok_law_word T) (hr.mono (by decide)) rfl T.m_law_word T.k_law_word T.b_law_word .nil pass0 (pa_cons (pv 1) pa_nil)))
      (pss_cut (ps_if (PW.pt (pw_and (pt_cmpR op_gGt (pe_callB (call_gLen (K := K) rfl) (by rfl) T.n_len (by decide +kernel) (pa_cons (pv 2) pa_nil)) pe_int (nomark _)) (pw_and1 (pt_cmpR (op_gEq (K := K) rfl hr.units) (pe_call (ok_law_draw T) (hr.mono (by decide)) rfl T.m_law_draw T.k_law_draw T.b_law_draw .nil pass0 (pa_cons (pv 1) (pa_cons pe_int pa_nil))) pe_int (nomark _))))) (pss_one (ps_set (i := 7) sc_law.nd rfl (.inl rfl) (pe_ix (ix_g (K := K) rfl) (pe_ix (ix_g (K := K) rfl) (pv 2) (pe_call (ok_law_draw T) (hr.mono (by decide)) rfl T.m_law_draw T.k_law_draw T.b_law_draw .nil pass0 (pa_cons (pv 1) (pa_cons (pe_callB (call_gLen (K := K) rfl) (by rfl) T.n_len (by decide +kernel) (pa_cons (pv 2) pa_nil)) pa_nil))) (fun _ _ => rfl)) pe_int (fun _ _ => rfl)))) pss_nil)
      (pss_one (ps_expr (pe_gBm (K := K) rfl PySem.F.plainAttrs_list PySem.F.slot_list_append PySem.F.type_list_append mt_append (pv 5) (pa_cons (pv 7) pa_nil)))))))
      (pss_cut (ps_while PassesOwn.never (pt_cmpR op_gLt (pe_callB (call_gLen (K := K) rfl) (by rfl) T.n_len (by decide +kernel) (pa_cons (pv 5) pa_nil)) pe_int (nomark _)) (pss_one (ps_expr (pe_gBm (K := K) rfl PySem.F.plainAttrs_list PySem.F.slot_list_append PySem.F.type_list_append mt_append (pv 5) (pa_cons pe_str pa_nil)))))
      (pss_cut (ps_setLc (i := 8) (own := [("word", 7)]) (g := (gName 7)) rfl sc_law.nd rfl rfl (sw_true rfl rfl rfl (by decide +kernel)) (pi_gList (K := K) rfl (pe_slice (sl_g (K := K) rfl) (pv 5) po_none (po_some pe_int))) (blkOk_by (N := ["script", "source", "pairs", "model", "counts", "words", "k", "word", "lines", "told", "inside", "pair"]) (sc := defScope s_law) (by decide +kernel)) (fun _ _ _ _ _ => (pg_name (i := 7) sc_law.nd rfl (.inl rfl))) (fun _ _ _ _ _ => pts_nil) (fun _ _ _ _ _ => (pe_call (ok_law_line T) (hr.mono (by decide)) rfl T.m_law_line T.k_law_line T.b_law_line .nil pass0 (pa_cons (pv 7) (pa_cons (pe_dget2 (hu_of hr) (pv 3) (pv 7) pe_int ⟨by rfl, by rfl, by rfl, by rfl⟩) pa_nil)))))
      (pss_cut (ps_if (pt_cmpR (op_gNe (K := K) rfl hr.units) (pe_methR (pv 4) T.kl_Counts.c T.mt_Counts_columns (okR_Counts_columns (K := K) T) (hr.mono (by decide)) pass0 (pa_cons (pe_ix (ix_g (K := K) rfl) (pv 5) pe_int (fun _ _ => rfl)) (pa_cons (pe_ix (ix_g (K := K) rfl) (pv 5) pe_int (fun _ _ => rfl)) (pa_cons (pe_ix (ix_g (K := K) rfl) (pv 5) pe_int (fun _ _ => rfl)) pa_nil)))) (pe_gJoin (K := K) rfl pe_str (pv 8)) (nomark _)) (pss_one (ps_ret pe_bl)) pss_nil)
      (pss_cut (ps_if (pt_cmpR (op_gNe (K := K) rfl hr.units) (pe_methR (pv 4) T.kl_Counts.c T.mt_Counts_columns (okR_Counts_columns (K := K) T) (hr.mono (by decide)) pass0 (pa_cons (pe_ix (ix_g (K := K) rfl) (pv 5) (pe_un un_gNeg pe_int) (fun _ _ => rfl)) pa_nil)) (pe_call (ok_law_line T) (hr.mono (by decide)) rfl T.m_law_line T.k_law_line T.b_law_line .nil pass0 (pa_cons (pe_ix (ix_g (K := K) rfl) (pv 5) (pe_un un_gNeg pe_int) (fun _ _ => rfl)) (pa_cons (pe_dget2 (hu_of hr) (pv 3) (pe_ix (ix_g (K := K) rfl) (pv 5) (pe_un un_gNeg pe_int) (fun _ _ => rfl)) pe_int ⟨by rfl, by rfl, by rfl, by rfl⟩) pa_nil))) (nomark _)) (pss_one (ps_ret pe_bl)) pss_nil)
      (pss_cons (ps_set (i := 9) sc_law.nd rfl (.inl rfl) (pe_call (ok_law_told T) (hr.mono (by decide)) rfl T.m_law_told T.k_law_told T.b_law_told .nil pass0 (pa_cons (pv 3) pa_nil)))
      (pss_cut (ps_if (pt_cmpR (op_gNe (K := K) rfl hr.units) (pe_methR0 (pv 4) T.kl_Counts.c T.mt_Counts_columns (okR_Counts_columns (K := K) T) (hr.mono (by decide)) pass0) (pe_gJoin (K := K) rfl pe_str (pe_lc (own := [("pair", 11)]) (g := (gName 11)) rfl sc_law.nd (pi_gList (K := K) rfl (pv 9)) (blkOk_by (N := ["script", "source", "pairs", "model", "counts", "words", "k", "word", "lines", "told", "inside", "pair"]) (sc := defScope s_law) (by decide +kernel)) (fun _ _ _ _ _ => (pg_name (i := 11) sc_law.nd rfl (.inl rfl))) (fun _ _ _ _ _ => pts_nil) (fun _ _ _ _ _ => (pe_call (ok_law_line T) (hr.mono (by decide)) rfl T.m_law_line T.k_law_line T.b_law_line .nil pass0 (pa_cons (pe_ix (ix_g (K := K) rfl) (pv 11) pe_int (fun _ _ => rfl)) (pa_cons (pe_ix (ix_g (K := K) rfl) (pv 11) pe_int (fun _ _ => rfl)) pa_nil)))))) (nomark _)) (pss_one (ps_ret pe_bl)) pss_nil)
      (pss_cut (ps_set (i := 10) sc_law.nd rfl (.inl rfl) (pe_gJoin (K := K) rfl pe_str (pe_lc (own := [("pair", 11)]) (g := (gName 11)) rfl sc_law.nd (pi_gList (K := K) rfl (pv 9)) (blkOk_by (N := ["script", "source", "pairs", "model", "counts", "words", "k", "word", "lines", "told", "inside", "pair"]) (sc := defScope s_law) (by decide +kernel)) (fun _ _ _ _ _ => (pg_name (i := 11) sc_law.nd rfl (.inl rfl))) (fun _ _ _ _ _ => pts_nil) (fun _ _ _ _ _ => (pe_op op_gAdd (pe_op op_gAdd (pe_ix (ix_g (K := K) rfl) (pv 11) pe_int (fun _ _ => rfl)) pe_str) (pe_callTy call_str_int (by rfl) T.n_str (by decide +kernel) (pa_cons (pe_ix (ix_g (K := K) rfl) (pv 11) pe_int (fun _ _ => rfl)) pa_nil)))))))
      (pss_cut (ps_if (PW.pt (pw_or (pt_cmpR (op_gNe (K := K) rfl hr.units) (pe_callB (call_ownRepr T.mt_Counts___repr__ (raw0 (K := K) (ok_Counts___repr__ (K := K) T) T.b_Counts___repr__) (hr.mono (by decide)) pass0) (by rfl) T.n_repr (by decide +kernel) (pa_cons (pv 4) pa_nil)) (pe_op op_gAdd (pe_op op_gAdd pe_str (pv 10)) pe_str) (nomark _)) (pw_or (pt_cmpR (op_gNe (K := K) rfl hr.units) (pe_callB (call_ownRepr T.mt_Counts___repr__ (raw0 (K := K) (ok_Counts___repr__ (K := K) T) T.b_Counts___repr__) (hr.mono (by decide)) pass0) (by rfl) T.n_repr (by decide +kernel) (pa_cons (pe_makeR0 T.mk_Counts (okR_Counts___init__ (K := K) T) (hr.mono (by decide)) rfl T.vm_Counts pass0) pa_nil)) pe_str (nomark _)) (pw_or1 (pt_cmpR (op_gNe (K := K) rfl hr.units) (pe_methR0 (pe_makeR0 T.mk_Counts (okR_Counts___init__ (K := K) T) (hr.mono (by decide)) rfl T.vm_Counts pass0) T.kl_Counts.c T.mt_Counts_columns (okR_Counts_columns (K := K) T) (hr.mono (by decide)) pass0) pe_str (nomark _)))))) (pss_one (ps_ret pe_bl)) pss_nil)
      (pss_cut (ps_if (pt_cmpR (op_gNe (K := K) rfl hr.units) (pe_methR (pe_makeR0 T.mk_Counts (okR_Counts___init__ (K := K) T) (hr.mono (by decide)) rfl T.vm_Counts pass0) T.kl_Counts.c T.mt_Counts_columns (okR_Counts_columns (K := K) T) (hr.mono (by decide)) pass0 (pa_cons pe_str pa_nil)) (pe_op op_gAdd (pe_op op_gAdd pe_str (pe_op op_mulS pe_str pe_int)) pe_str) (nomark _)) (pss_one (ps_ret pe_bl)) pss_nil)
      (pss_one (ps_ret (pe_call (ok_law_equal T) (hr.mono (by decide)) rfl T.m_law_equal T.k_law_equal T.b_law_equal .nil pass0 (pa_cons (pv 4) (pa_cons (pv 3) pa_nil)))))))))))))))))))), ?_⟩
    walk_at "v"
    refine ⟨a, ns, [], rfl, hS, hz, Sep.nil, fun s H1 S1 => ?_⟩
    walk_at "v"
    refine c_pairs S1 (i := 0) rfl (by decide) (by decide) fun aP ps H2 hg hl S2 => ?_
    have hl8 : ps.length ≤ 8 := by omega
    have hgw : ∀ x ∈ ps, Wd x.1 := fun x hx => (hg x hx).1
    walk_at "v"
    rename_i d m H3 hmn hml hmk hme S3 p H4 S4 W H5 S5
    clear S1 S2 S3 S4
    have hmf : num m = psum ps := funext hme
    have hgb := gp_b hg hl8
    have hml8 : m.length ≤ 8 := by omega
    have hkm : ∀ w, psum ps w ≠ 0 → w.length ≤ 100 := fun w h => by
      rw [← hme w] at h
      have h1 : w ∈ keys m := Classical.byContradiction fun z => h (num_none z)
      obtain ⟨x, hx, rfl⟩ := List.mem_map.1 (hmk w h1)
      have := (hgw x hx).2.1
      omega
    clear hg hl hme hmk hml
    obtain ⟨vs, hvs, S6⟩ := ld_open (S5.pick (i := 3) rfl)
    have hvl := ps_len hvs
    clear S5
    have S7 : Sep (At W (.lst (([] : List Str).map V.str)) :: At aP (.lst vs) :: DVs vs (pds ps) :: Co p A.c_Counts (psum ps) :: At d (.dK (mp m)) :: [Src s]) H5 := S6.pick (i := 2) rfl
    clear S6
    refine r_cut (fun σ H => ∃ (ws : List Str) (c6 c7 : Option V), σ = [some (.ref a), some (.ref s), some (.ref aP), some (.ref d), some (.ref p), some (.ref W), c6, c7, none, none, none, none] ∧ ws.length ≤ 6 ∧ (∀ w ∈ ws, Wd w) ∧ Sep (At W (.lst (ws.map V.str)) :: At aP (.lst vs) :: DVs vs (pds ps) :: Co p A.c_Counts (psum ps) :: At d (.dK (mp m)) :: [Src s]) H) ?_ ?_
    · clear hgb
      walk_at "v"
      try refine r_forR1 ?_
      walk_at "v"
      rename_i r H6 r0 r1 S6
      clear S7
      refine forR (by omega) (by omega) (fun i σ H => ∃ (ws : List Str) (c6 c7 : Option V), σ = [some (.ref a), some (.ref s), some (.ref aP), some (.ref d), some (.ref p), some (.ref W), c6, c7, none, none, none, none] ∧ ws.length = i ∧ (∀ w ∈ ws, Wd w) ∧ Sep (At W (.lst (ws.map V.str)) :: At aP (.lst vs) :: DVs vs (pds ps) :: Co p A.c_Counts (psum ps) :: At d (.dK (mp m)) :: [Src s]) H) ⟨[], _, _, rfl, rfl, fun w hw => (nomatch hw), S6⟩ ?_ ?_
      · rintro i σ H7 hi ⟨ws, c6, c7, rfl, hwl, hww, S7⟩
        clear S6
        walk_at "v"
        rename_i w H8 hw S8
        clear S7
        refine r_cut (fun σ' H' => ∃ w : Str, σ' = [some (.ref a), some (.ref s), some (.ref aP), some (.ref d), some (.ref p), some (.ref W), some (.int (i : Int)), some (.str w), none, none, none, none] ∧ Wd w ∧ Sep (At W (.lst (ws.map V.str)) :: At aP (.lst vs) :: DVs vs (pds ps) :: Co p A.c_Counts (psum ps) :: At d (.dK (mp m)) :: [Src s]) H') ?_ ?_
        · walk_at "v"
          refine r_ifD (fun e0 => ?_) (fun e0 => ?_)
          · walk_at "v"
            refine r_ifD (fun e1 => ?_) (fun e1 => ?_)
            · walk_at "v"
              rename_i z H9 z0 z1 S9
              refine x_lstA S9 (hasS has0) z0 z1 fun v ev => ?_
              obtain ⟨q, x, ex, rfl, hq⟩ := ps_get (S9.dvs (i := 2) rfl) ev
              have S10 := S9.addT hq
              clear S9
              walk_at "v"
              exact ⟨_, rfl, hgw x (List.mem_of_getElem? ex), S10.tail⟩
            · walk_at "v"
              exact ⟨_, rfl, hw, by assumption⟩
          · walk_at "v"
            exact ⟨_, rfl, hw, by assumption⟩
        clear S8
        rintro σ' H9 ⟨w, rfl, hw, S9⟩
        walk_at "v"
        refine m_append S9 has0 (by rw [List.length_map]; omega) fun H10 S10 => ?_
        refine ⟨ws ++ [w], _, _, rfl, by rw [List.length_append, hwl]; rfl, fun x hx => ?_, by rw [List.map_append]; exact S10⟩
        rcases List.mem_append.1 hx with h | h
        · exact hww x h
        · rw [List.mem_singleton.1 h]; exact hw
      · rintro σ H7 ⟨ws, c6, c7, rfl, hwl, hww, S7⟩
        exact ⟨ws, c6, c7, rfl, by omega, hww, S7⟩
    clear S7
    rintro σ H6 ⟨ws, c6, c7, rfl, hwl, hww, S6⟩
    refine r_cut (fun σ H => ∃ (ws : List Str), σ = [some (.ref a), some (.ref s), some (.ref aP), some (.ref d), some (.ref p), some (.ref W), c6, c7, none, none, none, none] ∧ 3 ≤ ws.length ∧ ws.length ≤ 6 ∧ (∀ w ∈ ws, Wd w) ∧ Sep (At W (.lst (ws.map V.str)) :: At aP (.lst vs) :: DVs vs (pds ps) :: Co p A.c_Counts (psum ps) :: At d (.dK (mp m)) :: [Src s]) H) ?_ ?_
    · walk_at "v"
      refine ⟨fun n σ H => ∃ (ws : List Str), n = 3 - ws.length ∧ σ = [some (.ref a), some (.ref s), some (.ref aP), some (.ref d), some (.ref p), some (.ref W), c6, c7, none, none, none, none] ∧ ws.length ≤ 6 ∧ (∀ w ∈ ws, Wd w) ∧ Sep (At W (.lst (ws.map V.str)) :: At aP (.lst vs) :: DVs vs (pds ps) :: Co p A.c_Counts (psum ps) :: At d (.dK (mp m)) :: [Src s]) H, ⟨_, ws, rfl, rfl, hwl, hww, S6⟩, ?_⟩
      clear S6 hwl hww ws
      rintro n σ H7 ⟨ws, rfl, rfl, hwl, hww, S7⟩
      have hll : (ws.map V.str).length = ws.length := List.length_map _
      walk_at "v"
      by_cases c : ws.length < 3
      · rw [if_pos (decide_eq_true (by omega))]
        refine ⟨fun σ' H' => ∃ m', m' < 3 - ws.length ∧ ∃ (ws : List Str), m' = 3 - ws.length ∧ σ' = [some (.ref a), some (.ref s), some (.ref aP), some (.ref d), some (.ref p), some (.ref W), c6, c7, none, none, none, none] ∧ ws.length ≤ 6 ∧ (∀ w ∈ ws, Wd w) ∧ Sep (At W (.lst (ws.map V.str)) :: At aP (.lst vs) :: DVs vs (pds ps) :: Co p A.c_Counts (psum ps) :: At d (.dK (mp m)) :: [Src s]) H', fun σ' H' z => z, ?_⟩
        walk_at "v"
        rename_i S8
        have hml1 : (ws ++ [("main" : Str)]).length = ws.length + 1 := by rw [List.length_append]; rfl
        refine ⟨_, ?_, ws ++ [("main" : Str)], rfl, rfl, by omega, fun x hx => ?_, by rw [List.map_append]; exact S8⟩
        · omega
        · rcases List.mem_append.1 hx with h | h
          · exact hww x h
          · rw [List.mem_singleton.1 h]; exact ⟨by decide +kernel, by decide +kernel, by decide +kernel⟩
      · rw [if_neg (by rw [decide_eq_false (by omega)]; decide)]
        exact ⟨ws, rfl, by omega, hwl, hww, S7⟩
    clear S6 hwl hww ws
    rintro σ H7 ⟨ws, rfl, hw3, hwl, hww, S7⟩
    have hw8 : ∀ w ∈ ws, w.length ≤ 100 := fun w hw => by have := (hww w hw).2.1; omega
    refine r_cut (fun σ H => ∃ (Ln : Addr), σ = [some (.ref a), some (.ref s), some (.ref aP), some (.ref d), some (.ref p), some (.ref W), c6, c7, some (.ref Ln), none, none, none] ∧ Sep (At Ln (.lst (((ws.take 3).map fun w => lineT w (psum ps w)).map V.str)) :: At W (.lst (ws.map V.str)) :: At aP (.lst vs) :: DVs vs (pds ps) :: Co p A.c_Counts (psum ps) :: At d (.dK (mp m)) :: [Src s]) H) ?_ ?_
    · walk_at "v"
      refine s_lst S7 has0 fun D H8 S8 => ?_
      rw [show (3 : Int) = ((3 : Nat) : Int) from rfl, cut_pre (by rw [List.length_map]; omega), ← List.map_take] at S8
      clear S7
      have h3l : ((ws.take 3).map V.str).length = (ws.take 3).length := List.length_map _
      walk_at "v"
      refine lcL S8 has0 (fun B n H' => Sep (At B (.lst ((((ws.take 3).take n).map fun w => lineT w (psum ps w)).map V.str)) :: At D (.lst ((ws.take 3).map V.str)) :: At W (.lst (ws.map V.str)) :: At aP (.lst vs) :: DVs vs (pds ps) :: Co p A.c_Counts (psum ps) :: At d (.dK (mp m)) :: [Src s]) H') (fun D H' S' => S') (fun D n H' S' => S'.at (i := 1) rfl) ?_ ?_
      · rintro B n v H9 hv S9
        rw [List.getElem?_map] at hv
        obtain ⟨w, ew, rfl⟩ := Option.map_eq_some_iff.1 hv
        have hnl := get_lt ew
        have hwl2 := hw8 w (List.mem_of_mem_take (List.mem_of_getElem? ew))
        have hll := line_len (w := w) (n := psum ps w) (by omega) (hgb w)
        have hb9 := hgb w
        clear S8
        refine lc_turn ?_
        walk_at "v"
        rw [hmf]
        refine c_line S9 (by omega) hb9 fun H10 S10 => ?_
        clear S9
        walk_at "v"
        rename_i S11
        rw [take_snoc ew, List.map_append, List.map_append]
        exact S11
      · rintro B H9 S9
        rw [h3l, List.take_length] at S9
        clear S8
        walk_at "v"
        exact ⟨B, rfl, S9.drops [1]⟩
    clear S7
    rintro σ H8 ⟨Ln, rfl, S8⟩
    refine r_cut (fun σ H => σ = [some (.ref a), some (.ref s), some (.ref aP), some (.ref d), some (.ref p), some (.ref W), c6, c7, some (.ref Ln), none, none, none] ∧ Sep (At W (.lst (ws.map V.str)) :: Co p A.c_Counts (psum ps) :: At d (.dK (mp m)) :: [Src s]) H) ?_ ?_
    · obtain ⟨w0, w1, w2, wr, rfl⟩ : ∃ w0 w1 w2 wr, ws = w0 :: w1 :: w2 :: wr := by
        match ws, hw3 with
        | w0 :: w1 :: w2 :: wr, _ => exact ⟨_, _, _, _, rfl⟩
      walk_at "v"
      rename_i y0 f0 y1 f1 y2 f2
      cases f0
      cases f1
      cases f2
      refine c_col (ws := [w0, w1, w2]) S8 (i := 4) rfl (by show 3 ≤ 500; decide) (fun w hw => hw8 w (by
        simp only [List.mem_cons, List.not_mem_nil, or_false] at hw ⊢
        rcases hw with h | h | h
        · exact .inl h
        · exact .inr (.inl h)
        · exact .inr (.inr (.inl h)))) hgb fun us H9 hu1 _ S9 => ?_
      rw [hu1 (List.cons_ne_nil _ _)]
      clear S8
      walk_at "v"
      refine c_join (B := 2000) S9 has0 (fun y hy => ?_) (by show 3 * 2000 + 3 * ("\n" : Str).length ≤ 16777216; decide +kernel) ?_
      · obtain ⟨w, hw', rfl⟩ := List.mem_map.1 hy
        exact line_len (by have := hw8 w (List.mem_of_mem_take hw'); omega) (hgb w)
      have e9 : Txt.join "\n" (((w0 :: w1 :: w2 :: wr).take 3).map fun w => lineT w (psum ps w)) = colT (psum ps) [w0, w1, w2] := rfl
      rw [e9]
      walk_at "v"
      exact ⟨rfl, S9.drops [0, 1, 1]⟩
    clear S8
    rintro σ H9 ⟨rfl, S9⟩
    refine r_cut (fun σ H => σ = [some (.ref a), some (.ref s), some (.ref aP), some (.ref d), some (.ref p), some (.ref W), c6, c7, some (.ref Ln), none, none, none] ∧ Sep (At W (.lst (ws.map V.str)) :: Co p A.c_Counts (psum ps) :: At d (.dK (mp m)) :: [Src s]) H) ?_ ?_
    · obtain ⟨wi, wl, rfl⟩ : ∃ wi wl, ws = wi ++ [wl] := ⟨ws.dropLast, ws.getLast (by intro e; rw [e] at hw3; exact absurd hw3 (by decide)), (List.dropLast_concat_getLast _).symm⟩
      have hwl8 := hw8 wl (List.mem_append_right _ (List.mem_singleton.2 rfl))
      have ea : atI ((wi ++ [wl]).map V.str) (-1) = some (V.str wl) := by rw [List.map_append]; exact at_m1
      walk_at "v"
      refine x_lst S9 has0 ea ?_
      walk_at "v"
      refine c_col (ws := [wl]) S9 (i := 1) rfl (by show 1 ≤ 500; decide) (fun w hw => by rw [List.mem_singleton.1 hw]; exact hwl8) hgb fun us H10 hu1 _ S10 => ?_
      rw [hu1 (List.cons_ne_nil _ _)]
      clear S9
      walk_at "v"
      refine x_lst S10 has0 ea ?_
      walk_at "v"
      refine x_lst S10 has0 ea ?_
      walk_at "v"
      rw [hmf]
      refine c_line S10 (by omega) (hgb wl) fun H11 S11 => ?_
      clear S10
      have e9 : colT (psum ps) [wl] = lineT wl (psum ps wl) := rfl
      rw [e9]
      walk_at "v"
      exact ⟨rfl, S11⟩
    clear S9
    rintro σ H10 ⟨rfl, S10⟩
    walk_at "v"
    rename_i aT L H11 hT hLl S11
    clear S10
    rw [hmf] at hT
    obtain ⟨ts, hts, S12⟩ := ld_open S11
    clear S11
    have htl : ts.length = L.length := ps_len hts
    have hL8 : L.length ≤ 8 := by omega
    have hkb : ∀ x ∈ L, x.1.length ≤ 100 ∧ x.2 = psum ps x.1 := fun x hx => ⟨hkm x.1 ((hT.2.1 x.1).1 (List.mem_map_of_mem hx)), hT.2.2 x hx⟩
    refine r_cut (fun σ H => σ = [some (.ref a), some (.ref s), some (.ref aP), some (.ref d), some (.ref p), some (.ref W), c6, c7, some (.ref Ln), some (.ref aT), none, none] ∧ Sep (At aT (.lst ts) :: DVs ts (pds L) :: At W (.lst (ws.map V.str)) :: Co p A.c_Counts (psum ps) :: At d (.dK (mp m)) :: [Src s]) H) ?_ ?_
    · walk_at "v"
      refine c_col (ws := []) S12 (i := 3) rfl (by show 0 ≤ 500; decide) (fun w hw => nomatch hw) hgb fun us H12 _ hu S13 => ?_
      obtain ⟨hua, hum⟩ := hu rfl
      clear S12
      walk_at "v"
      refine lcL S13 has0 (fun B n H' => Sep (At B (.lst (((L.take n).map fun x => lineT x.1 x.2).map V.str)) :: At aT (.lst ts) :: DVs ts (pds L) :: At W (.lst (ws.map V.str)) :: Co p A.c_Counts (psum ps) :: At d (.dK (mp m)) :: [Src s]) H') (fun D H' S' => S') (fun D n H' S' => S'.at (i := 1) rfl) ?_ ?_
      · rintro B n v H13 hv S14
        obtain ⟨q, x, ex, rfl, hq⟩ := ps_get (S14.dvs (i := 2) rfl) hv
        obtain ⟨hx1, hx2⟩ := hkb x (List.mem_of_getElem? ex)
        have hnl := get_lt ex
        have hb9 := hgb x.1
        rw [← hx2] at hb9
        have S15 := S14.addT hq
        clear S13 S14
        refine lc_turn ?_
        walk_at "v"
        refine c_line S15 (by omega) hb9 fun H14 S16 => ?_
        clear S15
        walk_at "v"
        rename_i S17
        rw [take_snoc ex, List.map_append, List.map_append]
        exact S17.tail
      · rintro B H13 S14
        rw [htl, List.take_length] at S14
        clear S13
        walk_at "v"
        refine c_join (B := 2000) S14 has0 (fun y hy => ?_) (by rw [List.length_map]; have : L.length * 2000 ≤ 8 * 2000 := Nat.mul_le_mul_right _ hL8; have : L.length * ("\n" : Str).length ≤ 8 * 1 := Nat.mul_le_mul hL8 (by decide +kernel); omega) ?_
        · obtain ⟨x, hx, rfl⟩ := List.mem_map.1 hy
          obtain ⟨hx1, hx2⟩ := hkb x hx
          exact line_len (by omega) (by rw [hx2]; exact hgb x.1)
        have e8 : us = keys L := asc_same hua hT.1 fun w => (hum w).trans (hT.2.1 w).symm
        have e9 : Txt.join "\n" (L.map fun x => lineT x.1 x.2) = colT (psum ps) us := by
          rw [e8]
          unfold colT keys
          rw [List.map_map]
          congr 1
          exact List.map_congr_left fun x hx => by
            show lineT x.1 x.2 = lineT x.1 (psum ps x.1)
            rw [← (hkb x hx).2]
        rw [e9]
        walk_at "v"
        try rw [if_neg (by rw [decide_eq_true rfl]; decide)]
        walk_at "v"
        exact ⟨rfl, S14.tail⟩
    clear S12
    rintro σ H12 ⟨rfl, S12⟩
    have hli : ∀ x ∈ L, (Str.ofString (toString x.2)).length ≤ 1000 := fun x hx => by
      refine Nat.le_trans (int_len (k := 500) (by decide) (Nat.lt_of_lt_of_le (by rw [(hkb x hx).2]; exact hgb x.1) (by decide +kernel))) (by decide)
    refine r_cut (fun σ H => ∃ J : Str, σ = [some (.ref a), some (.ref s), some (.ref aP), some (.ref d), some (.ref p), some (.ref W), c6, c7, some (.ref Ln), some (.ref aT), some (.str J), none] ∧ J = Txt.join ", " (L.map rowT) ∧ J.length ≤ 1000000 ∧ Sep (Co p A.c_Counts (psum ps) :: At d (.dK (mp m)) :: [Src s]) H) ?_ ?_
    · walk_at "v"
      refine lcL S12 has0 (fun B n H' => Sep (At B (.lst (((L.take n).map rowT).map V.str)) :: At aT (.lst ts) :: DVs ts (pds L) :: At W (.lst (ws.map V.str)) :: Co p A.c_Counts (psum ps) :: At d (.dK (mp m)) :: [Src s]) H') (fun D H' S' => S') (fun D n H' S' => S'.at (i := 1) rfl) ?_ ?_
      · rintro B n v H13 hv S14
        obtain ⟨q, x, ex, rfl, hq⟩ := ps_get (S14.dvs (i := 2) rfl) hv
        obtain ⟨hx1, hx2⟩ := hkb x (List.mem_of_getElem? ex)
        have hnl := get_lt ex
        have hb9 := hgb x.1
        rw [← hx2] at hb9
        have hlg := log_40 hb9
        clear hgb hb9
        have S15 := S14.addT hq
        clear S12 S14
        refine lc_turn ?_
        walk_at "v"
        have hq1 : ("=" : Str).length = 1 := by decide +kernel
        refine o_addS (by rw [hq1]; exact Nat.le_trans (m := 1000) (by omega) (by decide)) ?_
        walk_at "v"
        refine ⟨_, rfl, hlg, ?_⟩
        have hil : (Str.ofString (toString x.2)).length ≤ 1000 := hli x (List.mem_of_getElem? ex)
        refine o_addS (by rw [str_len_app, hq1]; exact Nat.le_trans (m := 10000) (by omega) (by decide)) ?_
        have e9 : x.1 ++ "=" ++ Str.ofString (toString x.2) = rowT x := by
          refine str_eq_of ?_
          unfold rowT
          rw [cps_app, cps_app, cps_app, cps_app, cps_app]
          rfl
        rw [e9]
        walk_at "v"
        rename_i S17
        rw [take_snoc ex, List.map_append, List.map_append]
        exact S17.tail
      · rintro B H13 S14
        rw [htl, List.take_length] at S14
        clear S12
        have hrl : ∀ y ∈ L.map rowT, y.length ≤ 2000 := fun y hy => by
          obtain ⟨x, hx, rfl⟩ := List.mem_map.1 hy
          have h1 := hli x hx
          have h2 := (hkb x hx).1
          have hq1 : ("=" : Str).length = 1 := by decide +kernel
          have hq0 : Str.empty.length = 0 := rfl
          unfold rowT
          rw [str_len_app, str_len_app, str_len_app]
          omega
        have hc1 : (", " : Str).length = 2 := by decide +kernel
        walk_at "v"
        refine c_join (B := 2000) S14 has0 hrl (by rw [List.length_map, hc1]; omega) ?_
        walk_at "v"
        refine ⟨_, rfl, rfl, Nat.le_trans (join_len hrl) (by rw [List.length_map, hc1]; omega), S14.drops [0, 0, 0, 0]⟩
    clear S12
    rintro σ H13 ⟨J, rfl, hJ, hJl, S13⟩
    have hc7 : ("Counts(" : Str).length = 7 := by decide +kernel
    have hc1 : (")" : Str).length = 1 := by decide +kernel
    have hb2 : ∀ w, (psum ps w).natAbs < 2 ^ 1000 := fun w => Nat.lt_of_lt_of_le (hgb w) (by decide +kernel)
    refine r_cut (fun σ H => σ = [some (.ref a), some (.ref s), some (.ref aP), some (.ref d), some (.ref p), some (.ref W), c6, c7, some (.ref Ln), some (.ref aT), some (.str J), none] ∧ Sep (Co p A.c_Counts (psum ps) :: At d (.dK (mp m)) :: [Src s]) H) ?_ ?_
    · walk_at "v"
      refine rp_co S13 (e := 0) rfl ?_
      refine c_repr S13 (i := 0) rfl hb2 fun L' H14 hT' hz' S14 => ⟨_, rfl, ?_⟩
      rw [told_same hT' hT]
      clear S13
      walk_at "v"
      refine o_addS (by rw [hc7]; exact Nat.le_trans (m := 10000000) (by omega) (by decide)) ?_
      walk_at "v"
      refine o_addS (by rw [str_len_app, hc7, hc1]; exact Nat.le_trans (m := 10000000) (by omega) (by decide)) ?_
      have e9 : ("Counts(" : Str) ++ J ++ ")" = reprT L := by
        refine str_eq_of ?_
        unfold reprT
        rw [hJ, cps_app, cps_app, cps_app, cps_app, cps_app]
        rfl
      rw [e9]
      walk_at "v"
      try rw [if_neg (by rw [decide_eq_true rfl]; decide)]
      walk_at "v"
      refine c_Counts0 S14 kl fun x1 H15 S15 => ?_
      clear S14
      walk_at "v"
      refine rp_co S15 (e := 0) rfl ?_
      refine c_repr S15 (i := 0) rfl (fun w => by show (0 : Int).natAbs < 2 ^ 1000; decide +kernel) fun L2 H16 hT2 hz2 S16 => ⟨_, rfl, ?_⟩
      have hT0 : Told (fun _ => 0) [] := ⟨List.Pairwise.nil, fun w => ⟨fun h => (nomatch h), fun h => (h rfl).elim⟩, fun x hx => (nomatch hx)⟩
      rw [told_same hT2 hT0]
      clear S15
      walk_at "v"
      have er : reprT [] = "Counts()" := by decide +kernel
      try rw [er]
      try rw [if_neg (by rw [decide_eq_true rfl]; decide)]
      walk_at "v"
      refine c_Counts0 S16 kl fun x2 H17 S17 => ?_
      clear S16
      walk_at "v"
      refine c_col (ws := []) S17 (i := 0) rfl (by show 0 ≤ 500; decide) (fun w hw => nomatch hw) (fun w => by show (0 : Int).natAbs < 10 ^ 40; decide +kernel) fun us H18 _ hu S18 => ?_
      obtain ⟨_, hum⟩ := hu rfl
      have hue : us = [] := by
        cases us with
        | nil => rfl
        | cons w ws => exact ((hum w).1 List.mem_cons_self rfl).elim
      subst hue
      clear S17
      walk_at "v"
      have ec : colT (fun _ => 0) [] = "" := by decide +kernel
      try rw [ec]
      try rw [if_neg (by rw [decide_eq_true rfl]; decide)]
      walk_at "v"
      exact ⟨rfl, S18.drops [0, 0]⟩
    clear S13
    rintro σ H14 ⟨rfl, S14⟩
    refine r_cut (fun σ H => σ = [some (.ref a), some (.ref s), some (.ref aP), some (.ref d), some (.ref p), some (.ref W), c6, c7, some (.ref Ln), some (.ref aT), some (.str J), none] ∧ Sep (Co p A.c_Counts (psum ps) :: At d (.dK (mp m)) :: [Src s]) H) ?_ ?_
    · walk_at "v"
      refine c_Counts0 S14 kl fun x1 H15 S15 => ?_
      clear S14
      walk_at "v"
      refine c_col (ws := ["main"]) S15 (i := 0) rfl (by show 1 ≤ 500; decide) (fun w hw => by rw [List.mem_singleton.1 hw]; decide +kernel) (fun w => by show (0 : Int).natAbs < 10 ^ 40; decide +kernel) fun us H16 hu1 _ S16 => ?_
      rw [hu1 (List.cons_ne_nil _ _)]
      clear S15
      walk_at "v"
      refine ⟨" ", 11, rfl, rfl, by unfold MulOk; decide +kernel, ?_⟩
      refine o_addS (by decide +kernel) ?_
      walk_at "v"
      refine o_addS (by decide +kernel) ?_
      walk_at "v"
      have ec : colT (fun _ => 0) ["main"] = ("main" : Str) ++ Txt.mul " " 11 ++ "0" := by decide +kernel
      try rw [ec]
      try rw [if_neg (by rw [decide_eq_true rfl]; decide)]
      walk_at "v"
      exact ⟨rfl, S16.drops [0]⟩
    clear S14
    rintro σ H15 ⟨rfl, S15⟩
    walk_at "v"
    exact k _
end
theorem all_mk {l : PySem.W.OpenLaw} {w : World} {K : PySem.W.Frag} {h : Heap} {mg : Str → Option Value} {fa : Addr} (X : K.In h) (G : h.Ns mainGlobals mg) (hfa : mg "law" = some (.ref fa))
  {f_law_source : Addr} {oc_law_source kV_law_source dc_law_source pm_law_source cd_law_source ct_law_source : Value} {od_law_source an_law_source : Option Addr} {sl_law_source : Array (Option Value)}
  {f_law_mixed : Addr} {oc_law_mixed kV_law_mixed dc_law_mixed pm_law_mixed cd_law_mixed ct_law_mixed : Value} {od_law_mixed an_law_mixed : Option Addr} {sl_law_mixed : Array (Option Value)}
  {f_law_draw : Addr} {oc_law_draw kV_law_draw dc_law_draw pm_law_draw cd_law_draw ct_law_draw : Value} {od_law_draw an_law_draw : Option Addr} {sl_law_draw : Array (Option Value)}
  {f_law_word : Addr} {oc_law_word kV_law_word dc_law_word pm_law_word cd_law_word ct_law_word : Value} {od_law_word an_law_word : Option Addr} {sl_law_word : Array (Option Value)}
  {f_law_number : Addr} {oc_law_number kV_law_number dc_law_number pm_law_number cd_law_number ct_law_number : Value} {od_law_number an_law_number : Option Addr} {sl_law_number : Array (Option Value)}
  {f_law_pairs : Addr} {oc_law_pairs kV_law_pairs dc_law_pairs pm_law_pairs cd_law_pairs ct_law_pairs : Value} {od_law_pairs an_law_pairs : Option Addr} {sl_law_pairs : Array (Option Value)}
  {f_law_model : Addr} {oc_law_model kV_law_model dc_law_model pm_law_model cd_law_model ct_law_model : Value} {od_law_model an_law_model : Option Addr} {sl_law_model : Array (Option Value)}
  {f_is_word : Addr} {oc_is_word kV_is_word dc_is_word pm_is_word cd_is_word ct_is_word : Value} {od_is_word an_is_word : Option Addr} {sl_is_word : Array (Option Value)}
  {f_BadWord___init__ : Addr} {oc_BadWord___init__ kV_BadWord___init__ dc_BadWord___init__ pm_BadWord___init__ cd_BadWord___init__ ct_BadWord___init__ : Value} {od_BadWord___init__ an_BadWord___init__ : Option Addr} {sl_BadWord___init__ : Array (Option Value)}
  {f_check_word : Addr} {oc_check_word kV_check_word dc_check_word pm_check_word cd_check_word ct_check_word : Value} {od_check_word an_check_word : Option Addr} {sl_check_word : Array (Option Value)}
  {f_is_number : Addr} {oc_is_number kV_is_number dc_is_number pm_is_number cd_is_number ct_is_number : Value} {od_is_number an_is_number : Option Addr} {sl_is_number : Array (Option Value)}
  {f_is_short : Addr} {oc_is_short kV_is_short dc_is_short pm_is_short cd_is_short ct_is_short : Value} {od_is_short an_is_short : Option Addr} {sl_is_short : Array (Option Value)}
  {f_BadNumber___init__ : Addr} {oc_BadNumber___init__ kV_BadNumber___init__ dc_BadNumber___init__ pm_BadNumber___init__ cd_BadNumber___init__ ct_BadNumber___init__ : Value} {od_BadNumber___init__ an_BadNumber___init__ : Option Addr} {sl_BadNumber___init__ : Array (Option Value)}
  {f_check_number : Addr} {oc_check_number kV_check_number dc_check_number pm_check_number cd_check_number ct_check_number : Value} {od_check_number an_check_number : Option Addr} {sl_check_number : Array (Option Value)}
  {f_Counts___init__ : Addr} {oc_Counts___init__ kV_Counts___init__ dc_Counts___init__ pm_Counts___init__ cd_Counts___init__ ct_Counts___init__ : Value} {od_Counts___init__ an_Counts___init__ : Option Addr} {sl_Counts___init__ : Array (Option Value)}
  {f_counts_of : Addr} {oc_counts_of kV_counts_of dc_counts_of pm_counts_of cd_counts_of ct_counts_of : Value} {od_counts_of an_counts_of : Option Addr} {sl_counts_of : Array (Option Value)}
  {f_BadCounts___init__ : Addr} {oc_BadCounts___init__ kV_BadCounts___init__ dc_BadCounts___init__ pm_BadCounts___init__ cd_BadCounts___init__ ct_BadCounts___init__ : Value} {od_BadCounts___init__ an_BadCounts___init__ : Option Addr} {sl_BadCounts___init__ : Array (Option Value)}
  {f_is_pair : Addr} {oc_is_pair kV_is_pair dc_is_pair pm_is_pair cd_is_pair ct_is_pair : Value} {od_is_pair an_is_pair : Option Addr} {sl_is_pair : Array (Option Value)}
  {f_Counts_of : Addr} {oc_Counts_of kV_Counts_of dc_Counts_of pm_Counts_of cd_Counts_of ct_Counts_of : Value} {od_Counts_of an_Counts_of : Option Addr} {sl_Counts_of : Array (Option Value)}
  {f_law_told : Addr} {oc_law_told kV_law_told dc_law_told pm_law_told cd_law_told ct_law_told : Value} {od_law_told an_law_told : Option Addr} {sl_law_told : Array (Option Value)}
  {f_Counts_words : Addr} {oc_Counts_words kV_Counts_words dc_Counts_words pm_Counts_words cd_Counts_words ct_Counts_words : Value} {od_Counts_words an_Counts_words : Option Addr} {sl_Counts_words : Array (Option Value)}
  {f_Counts_pairs : Addr} {oc_Counts_pairs kV_Counts_pairs dc_Counts_pairs pm_Counts_pairs cd_Counts_pairs ct_Counts_pairs : Value} {od_Counts_pairs an_Counts_pairs : Option Addr} {sl_Counts_pairs : Array (Option Value)}
  {f_law_is_integer : Addr} {oc_law_is_integer kV_law_is_integer dc_law_is_integer pm_law_is_integer cd_law_is_integer ct_law_is_integer : Value} {od_law_is_integer an_law_is_integer : Option Addr} {sl_law_is_integer : Array (Option Value)}
  {f_law_equal : Addr} {oc_law_equal kV_law_equal dc_law_equal pm_law_equal cd_law_equal ct_law_equal : Value} {od_law_equal an_law_equal : Option Addr} {sl_law_equal : Array (Option Value)}
  {f_law_commas : Addr} {oc_law_commas kV_law_commas dc_law_commas pm_law_commas cd_law_commas ct_law_commas : Value} {od_law_commas an_law_commas : Option Addr} {sl_law_commas : Array (Option Value)}
  {f_law_line : Addr} {oc_law_line kV_law_line dc_law_line pm_law_line cd_law_line ct_law_line : Value} {od_law_line an_law_line : Option Addr} {sl_law_line : Array (Option Value)}
  {f_Counts_columns : Addr} {oc_Counts_columns kV_Counts_columns dc_Counts_columns pm_Counts_columns cd_Counts_columns ct_Counts_columns : Value} {od_Counts_columns an_Counts_columns : Option Addr} {sl_Counts_columns : Array (Option Value)}
  {f_Counts___repr__ : Addr} {oc_Counts___repr__ kV_Counts___repr__ dc_Counts___repr__ pm_Counts___repr__ cd_Counts___repr__ ct_Counts___repr__ : Value} {od_Counts___repr__ an_Counts___repr__ : Option Addr} {sl_Counts___repr__ : Array (Option Value)}
  {f_law : Addr} {oc_law kV_law dc_law pm_law cd_law ct_law : Value} {od_law an_law : Option Addr} {sl_law : Array (Option Value)}
  {c_Counts : Addr}
  {c_BadWord : Addr} {enm_BadWord eq_BadWord : Str} {eN_BadWord : Addr} {ebs_BadWord ebm_BadWord : List Value} {esn_BadWord : List Str} {esub_BadWord : List Value} {eab_BadWord : Bool} {ecol_BadWord : Option Bool} {edd_BadWord : Option Addr} {ek0_BadWord ek1_BadWord ek2_BadWord ek3_BadWord ek5_BadWord : Option Value}
  {c_BadNumber : Addr} {enm_BadNumber eq_BadNumber : Str} {eN_BadNumber : Addr} {ebs_BadNumber ebm_BadNumber : List Value} {esn_BadNumber : List Str} {esub_BadNumber : List Value} {eab_BadNumber : Bool} {ecol_BadNumber : Option Bool} {edd_BadNumber : Option Addr} {ek0_BadNumber ek1_BadNumber ek2_BadNumber ek3_BadNumber ek5_BadNumber : Option Value}
  {c_BadCounts : Addr} {enm_BadCounts eq_BadCounts : Str} {eN_BadCounts : Addr} {ebs_BadCounts ebm_BadCounts : List Value} {esn_BadCounts : List Str} {esub_BadCounts : List Value} {eab_BadCounts : Bool} {ecol_BadCounts : Option Bool} {edd_BadCounts : Option Addr} {ek0_BadCounts ek1_BadCounts ek2_BadCounts ek3_BadCounts ek5_BadCounts : Option Value}
  {p_Counts_of : Addr} {rs_Counts_of : List Value}
  {u_LETTERS : Value}
  {u_BEYOND : Value}
  (a_law_source : PySem.W.nsIn K mainGlobals "_law_source" = some (some (.ref f_law_source)))
  (a_law_mixed : PySem.W.nsIn K mainGlobals "_law_mixed" = some (some (.ref f_law_mixed)))
  (a_law_draw : PySem.W.nsIn K mainGlobals "_law_draw" = some (some (.ref f_law_draw)))
  (a_law_word : PySem.W.nsIn K mainGlobals "_law_word" = some (some (.ref f_law_word)))
  (a_law_number : PySem.W.nsIn K mainGlobals "_law_number" = some (some (.ref f_law_number)))
  (a_law_pairs : PySem.W.nsIn K mainGlobals "_law_pairs" = some (some (.ref f_law_pairs)))
  (a_law_model : PySem.W.nsIn K mainGlobals "_law_model" = some (some (.ref f_law_model)))
  (a_is_word : PySem.W.nsIn K mainGlobals "is_word" = some (some (.ref f_is_word)))
  (a_check_word : PySem.W.nsIn K mainGlobals "_check_word" = some (some (.ref f_check_word)))
  (a_is_number : PySem.W.nsIn K mainGlobals "is_number" = some (some (.ref f_is_number)))
  (a_is_short : PySem.W.nsIn K mainGlobals "is_short" = some (some (.ref f_is_short)))
  (a_check_number : PySem.W.nsIn K mainGlobals "_check_number" = some (some (.ref f_check_number)))
  (a_counts_of : PySem.W.nsIn K mainGlobals "_counts_of" = some (some (.ref f_counts_of)))
  (a_is_pair : PySem.W.nsIn K mainGlobals "_is_pair" = some (some (.ref f_is_pair)))
  (a_law_told : PySem.W.nsIn K mainGlobals "_law_told" = some (some (.ref f_law_told)))
  (a_law_is_integer : PySem.W.nsIn K mainGlobals "_law_is_integer" = some (some (.ref f_law_is_integer)))
  (a_law_equal : PySem.W.nsIn K mainGlobals "_law_equal" = some (some (.ref f_law_equal)))
  (a_law_commas : PySem.W.nsIn K mainGlobals "_law_commas" = some (some (.ref f_law_commas)))
  (a_law_line : PySem.W.nsIn K mainGlobals "_law_line" = some (some (.ref f_law_line)))
  (a_law : PySem.W.nsIn K mainGlobals "law" = some (some (.ref f_law)))
  (vm_Counts : PySem.W.nsIn K mainGlobals "Counts" = some (some (.ref c_Counts)))
  (vm_BadWord : PySem.W.nsIn K mainGlobals "BadWord" = some (some (.ref c_BadWord)))
  (vm_BadNumber : PySem.W.nsIn K mainGlobals "BadNumber" = some (some (.ref c_BadNumber)))
  (vm_BadCounts : PySem.W.nsIn K mainGlobals "BadCounts" = some (some (.ref c_BadCounts)))
  (l_law_source : K.lookup f_law_source = some ⟨oc_law_source, od_law_source, .func (PySem.W.fnOf "_law_source" "_law_source" (defArgs s_law_source) (defBody s_law_source) (defScope s_law_source) .none kV_law_source dc_law_source pm_law_source an_law_source cd_law_source ct_law_source), sl_law_source⟩)
  (cd2_law_source : PySem.W.codeIn K cd_law_source "_law_source" = true)
  (kp_law_source : PySem.W.keepIn K (.ref f_law_source) = true)
  (l_law_mixed : K.lookup f_law_mixed = some ⟨oc_law_mixed, od_law_mixed, .func (PySem.W.fnOf "_law_mixed" "_law_mixed" (defArgs s_law_mixed) (defBody s_law_mixed) (defScope s_law_mixed) .none kV_law_mixed dc_law_mixed pm_law_mixed an_law_mixed cd_law_mixed ct_law_mixed), sl_law_mixed⟩)
  (cd2_law_mixed : PySem.W.codeIn K cd_law_mixed "_law_mixed" = true)
  (kp_law_mixed : PySem.W.keepIn K (.ref f_law_mixed) = true)
  (l_law_draw : K.lookup f_law_draw = some ⟨oc_law_draw, od_law_draw, .func (PySem.W.fnOf "_law_draw" "_law_draw" (defArgs s_law_draw) (defBody s_law_draw) (defScope s_law_draw) .none kV_law_draw dc_law_draw pm_law_draw an_law_draw cd_law_draw ct_law_draw), sl_law_draw⟩)
  (cd2_law_draw : PySem.W.codeIn K cd_law_draw "_law_draw" = true)
  (kp_law_draw : PySem.W.keepIn K (.ref f_law_draw) = true)
  (l_law_word : K.lookup f_law_word = some ⟨oc_law_word, od_law_word, .func (PySem.W.fnOf "_law_word" "_law_word" (defArgs s_law_word) (defBody s_law_word) (defScope s_law_word) .none kV_law_word dc_law_word pm_law_word an_law_word cd_law_word ct_law_word), sl_law_word⟩)
  (cd2_law_word : PySem.W.codeIn K cd_law_word "_law_word" = true)
  (kp_law_word : PySem.W.keepIn K (.ref f_law_word) = true)
  (l_law_number : K.lookup f_law_number = some ⟨oc_law_number, od_law_number, .func (PySem.W.fnOf "_law_number" "_law_number" (defArgs s_law_number) (defBody s_law_number) (defScope s_law_number) .none kV_law_number dc_law_number pm_law_number an_law_number cd_law_number ct_law_number), sl_law_number⟩)
  (cd2_law_number : PySem.W.codeIn K cd_law_number "_law_number" = true)
  (kp_law_number : PySem.W.keepIn K (.ref f_law_number) = true)
  (l_law_pairs : K.lookup f_law_pairs = some ⟨oc_law_pairs, od_law_pairs, .func (PySem.W.fnOf "_law_pairs" "_law_pairs" (defArgs s_law_pairs) (defBody s_law_pairs) (defScope s_law_pairs) .none kV_law_pairs dc_law_pairs pm_law_pairs an_law_pairs cd_law_pairs ct_law_pairs), sl_law_pairs⟩)
  (cd2_law_pairs : PySem.W.codeIn K cd_law_pairs "_law_pairs" = true)
  (kp_law_pairs : PySem.W.keepIn K (.ref f_law_pairs) = true)
  (l_law_model : K.lookup f_law_model = some ⟨oc_law_model, od_law_model, .func (PySem.W.fnOf "_law_model" "_law_model" (defArgs s_law_model) (defBody s_law_model) (defScope s_law_model) .none kV_law_model dc_law_model pm_law_model an_law_model cd_law_model ct_law_model), sl_law_model⟩)
  (cd2_law_model : PySem.W.codeIn K cd_law_model "_law_model" = true)
  (kp_law_model : PySem.W.keepIn K (.ref f_law_model) = true)
  (l_is_word : K.lookup f_is_word = some ⟨oc_is_word, od_is_word, .func (PySem.W.fnOf "is_word" "is_word" (defArgs s_is_word) (defBody s_is_word) (defScope s_is_word) .none kV_is_word dc_is_word pm_is_word an_is_word cd_is_word ct_is_word), sl_is_word⟩)
  (cd2_is_word : PySem.W.codeIn K cd_is_word "is_word" = true)
  (kp_is_word : PySem.W.keepIn K (.ref f_is_word) = true)
  (a_BadWord___init__ : PySem.W.findIn K (.ref c_BadWord) "__init__" = some (some (.ref f_BadWord___init__)))
  (l_BadWord___init__ : K.lookup f_BadWord___init__ = some ⟨oc_BadWord___init__, od_BadWord___init__, .func (PySem.W.fnOf "__init__" "BadWord.__init__" (defArgs s_BadWord___init__) (defBody s_BadWord___init__) (defScope s_BadWord___init__) .none kV_BadWord___init__ dc_BadWord___init__ pm_BadWord___init__ an_BadWord___init__ cd_BadWord___init__ ct_BadWord___init__), sl_BadWord___init__⟩)
  (cd2_BadWord___init__ : PySem.W.codeIn K cd_BadWord___init__ "BadWord.__init__" = true)
  (kp_BadWord___init__ : PySem.W.keepIn K (.ref f_BadWord___init__) = true)
  (l_check_word : K.lookup f_check_word = some ⟨oc_check_word, od_check_word, .func (PySem.W.fnOf "_check_word" "_check_word" (defArgs s_check_word) (defBody s_check_word) (defScope s_check_word) .none kV_check_word dc_check_word pm_check_word an_check_word cd_check_word ct_check_word), sl_check_word⟩)
  (cd2_check_word : PySem.W.codeIn K cd_check_word "_check_word" = true)
  (kp_check_word : PySem.W.keepIn K (.ref f_check_word) = true)
  (l_is_number : K.lookup f_is_number = some ⟨oc_is_number, od_is_number, .func (PySem.W.fnOf "is_number" "is_number" (defArgs s_is_number) (defBody s_is_number) (defScope s_is_number) .none kV_is_number dc_is_number pm_is_number an_is_number cd_is_number ct_is_number), sl_is_number⟩)
  (cd2_is_number : PySem.W.codeIn K cd_is_number "is_number" = true)
  (kp_is_number : PySem.W.keepIn K (.ref f_is_number) = true)
  (l_is_short : K.lookup f_is_short = some ⟨oc_is_short, od_is_short, .func (PySem.W.fnOf "is_short" "is_short" (defArgs s_is_short) (defBody s_is_short) (defScope s_is_short) .none kV_is_short dc_is_short pm_is_short an_is_short cd_is_short ct_is_short), sl_is_short⟩)
  (cd2_is_short : PySem.W.codeIn K cd_is_short "is_short" = true)
  (kp_is_short : PySem.W.keepIn K (.ref f_is_short) = true)
  (a_BadNumber___init__ : PySem.W.findIn K (.ref c_BadNumber) "__init__" = some (some (.ref f_BadNumber___init__)))
  (l_BadNumber___init__ : K.lookup f_BadNumber___init__ = some ⟨oc_BadNumber___init__, od_BadNumber___init__, .func (PySem.W.fnOf "__init__" "BadNumber.__init__" (defArgs s_BadNumber___init__) (defBody s_BadNumber___init__) (defScope s_BadNumber___init__) .none kV_BadNumber___init__ dc_BadNumber___init__ pm_BadNumber___init__ an_BadNumber___init__ cd_BadNumber___init__ ct_BadNumber___init__), sl_BadNumber___init__⟩)
  (cd2_BadNumber___init__ : PySem.W.codeIn K cd_BadNumber___init__ "BadNumber.__init__" = true)
  (kp_BadNumber___init__ : PySem.W.keepIn K (.ref f_BadNumber___init__) = true)
  (l_check_number : K.lookup f_check_number = some ⟨oc_check_number, od_check_number, .func (PySem.W.fnOf "_check_number" "_check_number" (defArgs s_check_number) (defBody s_check_number) (defScope s_check_number) .none kV_check_number dc_check_number pm_check_number an_check_number cd_check_number ct_check_number), sl_check_number⟩)
  (cd2_check_number : PySem.W.codeIn K cd_check_number "_check_number" = true)
  (kp_check_number : PySem.W.keepIn K (.ref f_check_number) = true)
  (a_Counts___init__ : PySem.W.findIn K (.ref c_Counts) "__init__" = some (some (.ref f_Counts___init__)))
  (l_Counts___init__ : K.lookup f_Counts___init__ = some ⟨oc_Counts___init__, od_Counts___init__, .func (PySem.W.fnOf "__init__" "Counts.__init__" (defArgs s_Counts___init__) (defBody s_Counts___init__) (defScope s_Counts___init__) .none kV_Counts___init__ dc_Counts___init__ pm_Counts___init__ an_Counts___init__ cd_Counts___init__ ct_Counts___init__), sl_Counts___init__⟩)
  (cd2_Counts___init__ : PySem.W.codeIn K cd_Counts___init__ "Counts.__init__" = true)
  (kp_Counts___init__ : PySem.W.keepIn K (.ref f_Counts___init__) = true)
  (l_counts_of : K.lookup f_counts_of = some ⟨oc_counts_of, od_counts_of, .func (PySem.W.fnOf "_counts_of" "_counts_of" (defArgs s_counts_of) (defBody s_counts_of) (defScope s_counts_of) .none kV_counts_of dc_counts_of pm_counts_of an_counts_of cd_counts_of ct_counts_of), sl_counts_of⟩)
  (cd2_counts_of : PySem.W.codeIn K cd_counts_of "_counts_of" = true)
  (kp_counts_of : PySem.W.keepIn K (.ref f_counts_of) = true)
  (a_BadCounts___init__ : PySem.W.findIn K (.ref c_BadCounts) "__init__" = some (some (.ref f_BadCounts___init__)))
  (l_BadCounts___init__ : K.lookup f_BadCounts___init__ = some ⟨oc_BadCounts___init__, od_BadCounts___init__, .func (PySem.W.fnOf "__init__" "BadCounts.__init__" (defArgs s_BadCounts___init__) (defBody s_BadCounts___init__) (defScope s_BadCounts___init__) .none kV_BadCounts___init__ dc_BadCounts___init__ pm_BadCounts___init__ an_BadCounts___init__ cd_BadCounts___init__ ct_BadCounts___init__), sl_BadCounts___init__⟩)
  (cd2_BadCounts___init__ : PySem.W.codeIn K cd_BadCounts___init__ "BadCounts.__init__" = true)
  (kp_BadCounts___init__ : PySem.W.keepIn K (.ref f_BadCounts___init__) = true)
  (l_is_pair : K.lookup f_is_pair = some ⟨oc_is_pair, od_is_pair, .func (PySem.W.fnOf "_is_pair" "_is_pair" (defArgs s_is_pair) (defBody s_is_pair) (defScope s_is_pair) .none kV_is_pair dc_is_pair pm_is_pair an_is_pair cd_is_pair ct_is_pair), sl_is_pair⟩)
  (cd2_is_pair : PySem.W.codeIn K cd_is_pair "_is_pair" = true)
  (kp_is_pair : PySem.W.keepIn K (.ref f_is_pair) = true)
  (cm_Counts_of : PySem.W.findCls K (.ref c_Counts) (.type "type") "of" = some (.get (.builtin "classmethod.__get__") (.ref p_Counts_of) .none (.ref c_Counts)))
  (rc_Counts_of : PySem.W.recIn K p_Counts_of "classmethod" = some (.ref f_Counts_of :: rs_Counts_of))
  (fi_Counts_of : PySem.W.fnIn K f_Counts_of = true)
  (l_Counts_of : K.lookup f_Counts_of = some ⟨oc_Counts_of, od_Counts_of, .func (PySem.W.fnOf "of" "Counts.of" (defArgs s_Counts_of) (defBody s_Counts_of) (defScope s_Counts_of) .none kV_Counts_of dc_Counts_of pm_Counts_of an_Counts_of cd_Counts_of ct_Counts_of), sl_Counts_of⟩)
  (cd2_Counts_of : PySem.W.codeIn K cd_Counts_of "Counts.of" = true)
  (kp_Counts_of : PySem.W.keepIn K (.ref f_Counts_of) = true)
  (l_law_told : K.lookup f_law_told = some ⟨oc_law_told, od_law_told, .func (PySem.W.fnOf "_law_told" "_law_told" (defArgs s_law_told) (defBody s_law_told) (defScope s_law_told) .none kV_law_told dc_law_told pm_law_told an_law_told cd_law_told ct_law_told), sl_law_told⟩)
  (cd2_law_told : PySem.W.codeIn K cd_law_told "_law_told" = true)
  (kp_law_told : PySem.W.keepIn K (.ref f_law_told) = true)
  (a_Counts_words : PySem.W.findIn K (.ref c_Counts) "words" = some (some (.ref f_Counts_words)))
  (l_Counts_words : K.lookup f_Counts_words = some ⟨oc_Counts_words, od_Counts_words, .func (PySem.W.fnOf "words" "Counts.words" (defArgs s_Counts_words) (defBody s_Counts_words) (defScope s_Counts_words) .none kV_Counts_words dc_Counts_words pm_Counts_words an_Counts_words cd_Counts_words ct_Counts_words), sl_Counts_words⟩)
  (cd2_Counts_words : PySem.W.codeIn K cd_Counts_words "Counts.words" = true)
  (kp_Counts_words : PySem.W.keepIn K (.ref f_Counts_words) = true)
  (fn_Counts_words : PySem.W.isFn K (.ref f_Counts_words) = true)
  (a_Counts_pairs : PySem.W.findIn K (.ref c_Counts) "pairs" = some (some (.ref f_Counts_pairs)))
  (l_Counts_pairs : K.lookup f_Counts_pairs = some ⟨oc_Counts_pairs, od_Counts_pairs, .func (PySem.W.fnOf "pairs" "Counts.pairs" (defArgs s_Counts_pairs) (defBody s_Counts_pairs) (defScope s_Counts_pairs) .none kV_Counts_pairs dc_Counts_pairs pm_Counts_pairs an_Counts_pairs cd_Counts_pairs ct_Counts_pairs), sl_Counts_pairs⟩)
  (cd2_Counts_pairs : PySem.W.codeIn K cd_Counts_pairs "Counts.pairs" = true)
  (kp_Counts_pairs : PySem.W.keepIn K (.ref f_Counts_pairs) = true)
  (fn_Counts_pairs : PySem.W.isFn K (.ref f_Counts_pairs) = true)
  (l_law_is_integer : K.lookup f_law_is_integer = some ⟨oc_law_is_integer, od_law_is_integer, .func (PySem.W.fnOf "_law_is_integer" "_law_is_integer" (defArgs s_law_is_integer) (defBody s_law_is_integer) (defScope s_law_is_integer) .none kV_law_is_integer dc_law_is_integer pm_law_is_integer an_law_is_integer cd_law_is_integer ct_law_is_integer), sl_law_is_integer⟩)
  (cd2_law_is_integer : PySem.W.codeIn K cd_law_is_integer "_law_is_integer" = true)
  (kp_law_is_integer : PySem.W.keepIn K (.ref f_law_is_integer) = true)
  (l_law_equal : K.lookup f_law_equal = some ⟨oc_law_equal, od_law_equal, .func (PySem.W.fnOf "_law_equal" "_law_equal" (defArgs s_law_equal) (defBody s_law_equal) (defScope s_law_equal) .none kV_law_equal dc_law_equal pm_law_equal an_law_equal cd_law_equal ct_law_equal), sl_law_equal⟩)
  (cd2_law_equal : PySem.W.codeIn K cd_law_equal "_law_equal" = true)
  (kp_law_equal : PySem.W.keepIn K (.ref f_law_equal) = true)
  (l_law_commas : K.lookup f_law_commas = some ⟨oc_law_commas, od_law_commas, .func (PySem.W.fnOf "_law_commas" "_law_commas" (defArgs s_law_commas) (defBody s_law_commas) (defScope s_law_commas) .none kV_law_commas dc_law_commas pm_law_commas an_law_commas cd_law_commas ct_law_commas), sl_law_commas⟩)
  (cd2_law_commas : PySem.W.codeIn K cd_law_commas "_law_commas" = true)
  (kp_law_commas : PySem.W.keepIn K (.ref f_law_commas) = true)
  (l_law_line : K.lookup f_law_line = some ⟨oc_law_line, od_law_line, .func (PySem.W.fnOf "_law_line" "_law_line" (defArgs s_law_line) (defBody s_law_line) (defScope s_law_line) .none kV_law_line dc_law_line pm_law_line an_law_line cd_law_line ct_law_line), sl_law_line⟩)
  (cd2_law_line : PySem.W.codeIn K cd_law_line "_law_line" = true)
  (kp_law_line : PySem.W.keepIn K (.ref f_law_line) = true)
  (a_Counts_columns : PySem.W.findIn K (.ref c_Counts) "columns" = some (some (.ref f_Counts_columns)))
  (l_Counts_columns : K.lookup f_Counts_columns = some ⟨oc_Counts_columns, od_Counts_columns, .func (PySem.W.fnOf "columns" "Counts.columns" (defArgs s_Counts_columns) (defBody s_Counts_columns) (defScope s_Counts_columns) .none kV_Counts_columns dc_Counts_columns pm_Counts_columns an_Counts_columns cd_Counts_columns ct_Counts_columns), sl_Counts_columns⟩)
  (cd2_Counts_columns : PySem.W.codeIn K cd_Counts_columns "Counts.columns" = true)
  (kp_Counts_columns : PySem.W.keepIn K (.ref f_Counts_columns) = true)
  (fn_Counts_columns : PySem.W.isFn K (.ref f_Counts_columns) = true)
  (a_Counts___repr__ : PySem.W.findIn K (.ref c_Counts) "__repr__" = some (some (.ref f_Counts___repr__)))
  (l_Counts___repr__ : K.lookup f_Counts___repr__ = some ⟨oc_Counts___repr__, od_Counts___repr__, .func (PySem.W.fnOf "__repr__" "Counts.__repr__" (defArgs s_Counts___repr__) (defBody s_Counts___repr__) (defScope s_Counts___repr__) .none kV_Counts___repr__ dc_Counts___repr__ pm_Counts___repr__ an_Counts___repr__ cd_Counts___repr__ ct_Counts___repr__), sl_Counts___repr__⟩)
  (cd2_Counts___repr__ : PySem.W.codeIn K cd_Counts___repr__ "Counts.__repr__" = true)
  (kp_Counts___repr__ : PySem.W.keepIn K (.ref f_Counts___repr__) = true)
  (fn_Counts___repr__ : PySem.W.isFn K (.ref f_Counts___repr__) = true)
  (l_law : K.lookup f_law = some ⟨oc_law, od_law, .func (PySem.W.fnOf "law" "law" (defArgs s_law) (defBody s_law) (defScope s_law) .none kV_law dc_law pm_law an_law cd_law ct_law), sl_law⟩)
  (cd2_law : PySem.W.codeIn K cd_law "law" = true)
  (kp_law : PySem.W.keepIn K (.ref f_law) = true)
  (z_abs : PySem.W.nsIn K mainGlobals "abs" = some none)
  (z_all : PySem.W.nsIn K mainGlobals "all" = some none)
  (z_bool : PySem.W.nsIn K mainGlobals "bool" = some none)
  (z_enumerate : PySem.W.nsIn K mainGlobals "enumerate" = some none)
  (z_int : PySem.W.nsIn K mainGlobals "int" = some none)
  (z_isinstance : PySem.W.nsIn K mainGlobals "isinstance" = some none)
  (z_len : PySem.W.nsIn K mainGlobals "len" = some none)
  (z_list : PySem.W.nsIn K mainGlobals "list" = some none)
  (z_range : PySem.W.nsIn K mainGlobals "range" = some none)
  (z_repr : PySem.W.nsIn K mainGlobals "repr" = some none)
  (z_sorted : PySem.W.nsIn K mainGlobals "sorted" = some none)
  (z_str : PySem.W.nsIn K mainGlobals "str" = some none)
  (z_tuple : PySem.W.nsIn K mainGlobals "tuple" = some none)
  (pg_Counts : PySem.W.plainGet K c_Counts Str.empty = true)
  (hd_Counts : PySem.W.hasDictIn K c_Counts = true)
  (po_Counts : PySem.W.plainOver K c_Counts = true)
  (sa_Counts : PySem.W.findIn K (.ref c_Counts) "__setattr__" = some (some (.builtin "object.__setattr__")))
  (ia_Counts : PySem.W.findIn K (.ref c_Counts) "__class__" = some (some (.builtin "object.__class__")))
  (im_Counts : PySem.W.mroIn K c_Counts (.type "object") = some true)
  (na_Counts__numbers : PySem.W.findIn K (.ref c_Counts) "_numbers" = some none)
  (ns_Counts : PySem.W.noSeq K c_Counts = true)
  (sf_Counts : PySem.W.selfFirst K c_Counts = true)
  (nf_Counts : PySem.W.notFirst K c_Counts (.ref c_Counts) = true)
  (mk_Counts : PySem.W.makesIn K c_Counts = true)
  (fn_Counts : PySem.W.isFn K (.ref f_Counts___init__) = true)
  (kc_Counts : PySem.W.keepIn K (.ref c_Counts) = true)
  (rd_Counts : PySem.W.readsIn K c_Counts (.type "type") = true)
  (ga_Counts : PySem.W.specialIn K (.ref c_Counts) "__getattribute__" = some (some (.builtin "type.__getattribute__")))
  (u_Counts___init__ : PySem.W.findCls K (.ref c_Counts) (.type "type") "__init__" = some (.val (.ref f_Counts___init__)))
  (ihn : PySem.W.specialIn K (.builtin "object.__class__") "__get__" = some (some (.builtin "getset_descriptor.__get__")))
  (iht : PySem.W.takesIn K (.builtin "object.__class__") = some true)
  (kit_Counts_Counts : PySem.W.kitOne K (.ref c_Counts) (.ref c_Counts) = some true)
  (ec_LETTERS : PySem.W.nsIn K mainGlobals "_LETTERS" = some (some u_LETTERS))
  (er_LETTERS : RelV (.str "abcdefghijklmnopqrstuvwxyz") u_LETTERS)
  (ec_BEYOND : PySem.W.nsIn K mainGlobals "_BEYOND" = some (some u_BEYOND))
  (er_BEYOND : RelV (.int 1000000000000000000000000000000) u_BEYOND)
  (xl_BadWord : K.lookup c_BadWord = some (excClassObj enm_BadWord eq_BadWord c_BadWord eN_BadWord ebs_BadWord ebm_BadWord true esn_BadWord esub_BadWord eab_BadWord ecol_BadWord edd_BadWord ek0_BadWord ek1_BadWord ek2_BadWord ek3_BadWord ek5_BadWord "ValueError.__new__"))
  (xr_BadWord : PySem.HandSPX.refsVE ebm_BadWord = true)
  (xs_BadWord : PySem.W.findIn K (.ref c_BadWord) "__setattr__" = some (some (.builtin "object.__setattr__")))
  (xb_BadWord : PySem.W.subIn K (.ref c_BadWord) (.type "BaseException") = some true)
  (xt_BadWord : PySem.W.typeIn K (.ref c_BadWord) = some (.type "type"))
  (xk_BadWord : PySem.W.keepIn K (.ref c_BadWord) = true)
  (xi_BadWord : PySem.W.typeIn K (.ref f_BadWord___init__) = some (.type "function"))
  (xn_BadWord_word : PySem.W.findIn K (.ref c_BadWord) "word" = some none)
  (xl_BadNumber : K.lookup c_BadNumber = some (excClassObj enm_BadNumber eq_BadNumber c_BadNumber eN_BadNumber ebs_BadNumber ebm_BadNumber true esn_BadNumber esub_BadNumber eab_BadNumber ecol_BadNumber edd_BadNumber ek0_BadNumber ek1_BadNumber ek2_BadNumber ek3_BadNumber ek5_BadNumber "ValueError.__new__"))
  (xr_BadNumber : PySem.HandSPX.refsVE ebm_BadNumber = true)
  (xs_BadNumber : PySem.W.findIn K (.ref c_BadNumber) "__setattr__" = some (some (.builtin "object.__setattr__")))
  (xb_BadNumber : PySem.W.subIn K (.ref c_BadNumber) (.type "BaseException") = some true)
  (xt_BadNumber : PySem.W.typeIn K (.ref c_BadNumber) = some (.type "type"))
  (xk_BadNumber : PySem.W.keepIn K (.ref c_BadNumber) = true)
  (xi_BadNumber : PySem.W.typeIn K (.ref f_BadNumber___init__) = some (.type "function"))
  (xn_BadNumber_number : PySem.W.findIn K (.ref c_BadNumber) "number" = some none)
  (xl_BadCounts : K.lookup c_BadCounts = some (excClassObj enm_BadCounts eq_BadCounts c_BadCounts eN_BadCounts ebs_BadCounts ebm_BadCounts true esn_BadCounts esub_BadCounts eab_BadCounts ecol_BadCounts edd_BadCounts ek0_BadCounts ek1_BadCounts ek2_BadCounts ek3_BadCounts ek5_BadCounts "ValueError.__new__"))
  (xr_BadCounts : PySem.HandSPX.refsVE ebm_BadCounts = true)
  (xs_BadCounts : PySem.W.findIn K (.ref c_BadCounts) "__setattr__" = some (some (.builtin "object.__setattr__")))
  (xb_BadCounts : PySem.W.subIn K (.ref c_BadCounts) (.type "BaseException") = some true)
  (xt_BadCounts : PySem.W.typeIn K (.ref c_BadCounts) = some (.type "type"))
  (xk_BadCounts : PySem.W.keepIn K (.ref c_BadCounts) = true)
  (xi_BadCounts : PySem.W.typeIn K (.ref f_BadCounts___init__) = some (.type "function"))
  (xn_BadCounts_at : PySem.W.findIn K (.ref c_BadCounts) "at" = some none)
    : ∃ fd : FuncData, (∀ (s : Shared) (v : Value), BindsTo s fd ⟨[v], []⟩ [("script", v)]) ∧ ∀ base : Heap, K.In base → base.Ns mainGlobals mg → FnOk l.prog w K mg base CX0 9 fa fd ["script"] (sp_law K) := by
  have e := hfa.symm.trans (PySem.W.mg_of X G a_law)
  cases e
  have T : Txt K mg { f_law_source := f_law_source, fd_law_source := PySem.W.fnOf "_law_source" "_law_source" (defArgs s_law_source) (defBody s_law_source) (defScope s_law_source) .none kV_law_source dc_law_source pm_law_source an_law_source cd_law_source ct_law_source, f_law_mixed := f_law_mixed, fd_law_mixed := PySem.W.fnOf "_law_mixed" "_law_mixed" (defArgs s_law_mixed) (defBody s_law_mixed) (defScope s_law_mixed) .none kV_law_mixed dc_law_mixed pm_law_mixed an_law_mixed cd_law_mixed ct_law_mixed, f_law_draw := f_law_draw, fd_law_draw := PySem.W.fnOf "_law_draw" "_law_draw" (defArgs s_law_draw) (defBody s_law_draw) (defScope s_law_draw) .none kV_law_draw dc_law_draw pm_law_draw an_law_draw cd_law_draw ct_law_draw, f_law_word := f_law_word, fd_law_word := PySem.W.fnOf "_law_word" "_law_word" (defArgs s_law_word) (defBody s_law_word) (defScope s_law_word) .none kV_law_word dc_law_word pm_law_word an_law_word cd_law_word ct_law_word, f_law_number := f_law_number, fd_law_number := PySem.W.fnOf "_law_number" "_law_number" (defArgs s_law_number) (defBody s_law_number) (defScope s_law_number) .none kV_law_number dc_law_number pm_law_number an_law_number cd_law_number ct_law_number, f_law_pairs := f_law_pairs, fd_law_pairs := PySem.W.fnOf "_law_pairs" "_law_pairs" (defArgs s_law_pairs) (defBody s_law_pairs) (defScope s_law_pairs) .none kV_law_pairs dc_law_pairs pm_law_pairs an_law_pairs cd_law_pairs ct_law_pairs, f_law_model := f_law_model, fd_law_model := PySem.W.fnOf "_law_model" "_law_model" (defArgs s_law_model) (defBody s_law_model) (defScope s_law_model) .none kV_law_model dc_law_model pm_law_model an_law_model cd_law_model ct_law_model, f_is_word := f_is_word, fd_is_word := PySem.W.fnOf "is_word" "is_word" (defArgs s_is_word) (defBody s_is_word) (defScope s_is_word) .none kV_is_word dc_is_word pm_is_word an_is_word cd_is_word ct_is_word, f_BadWord___init__ := f_BadWord___init__, fd_BadWord___init__ := PySem.W.fnOf "__init__" "BadWord.__init__" (defArgs s_BadWord___init__) (defBody s_BadWord___init__) (defScope s_BadWord___init__) .none kV_BadWord___init__ dc_BadWord___init__ pm_BadWord___init__ an_BadWord___init__ cd_BadWord___init__ ct_BadWord___init__, f_check_word := f_check_word, fd_check_word := PySem.W.fnOf "_check_word" "_check_word" (defArgs s_check_word) (defBody s_check_word) (defScope s_check_word) .none kV_check_word dc_check_word pm_check_word an_check_word cd_check_word ct_check_word, f_is_number := f_is_number, fd_is_number := PySem.W.fnOf "is_number" "is_number" (defArgs s_is_number) (defBody s_is_number) (defScope s_is_number) .none kV_is_number dc_is_number pm_is_number an_is_number cd_is_number ct_is_number, f_is_short := f_is_short, fd_is_short := PySem.W.fnOf "is_short" "is_short" (defArgs s_is_short) (defBody s_is_short) (defScope s_is_short) .none kV_is_short dc_is_short pm_is_short an_is_short cd_is_short ct_is_short, f_BadNumber___init__ := f_BadNumber___init__, fd_BadNumber___init__ := PySem.W.fnOf "__init__" "BadNumber.__init__" (defArgs s_BadNumber___init__) (defBody s_BadNumber___init__) (defScope s_BadNumber___init__) .none kV_BadNumber___init__ dc_BadNumber___init__ pm_BadNumber___init__ an_BadNumber___init__ cd_BadNumber___init__ ct_BadNumber___init__, f_check_number := f_check_number, fd_check_number := PySem.W.fnOf "_check_number" "_check_number" (defArgs s_check_number) (defBody s_check_number) (defScope s_check_number) .none kV_check_number dc_check_number pm_check_number an_check_number cd_check_number ct_check_number, f_Counts___init__ := f_Counts___init__, fd_Counts___init__ := PySem.W.fnOf "__init__" "Counts.__init__" (defArgs s_Counts___init__) (defBody s_Counts___init__) (defScope s_Counts___init__) .none kV_Counts___init__ dc_Counts___init__ pm_Counts___init__ an_Counts___init__ cd_Counts___init__ ct_Counts___init__, f_counts_of := f_counts_of, fd_counts_of := PySem.W.fnOf "_counts_of" "_counts_of" (defArgs s_counts_of) (defBody s_counts_of) (defScope s_counts_of) .none kV_counts_of dc_counts_of pm_counts_of an_counts_of cd_counts_of ct_counts_of, f_BadCounts___init__ := f_BadCounts___init__, fd_BadCounts___init__ := PySem.W.fnOf "__init__" "BadCounts.__init__" (defArgs s_BadCounts___init__) (defBody s_BadCounts___init__) (defScope s_BadCounts___init__) .none kV_BadCounts___init__ dc_BadCounts___init__ pm_BadCounts___init__ an_BadCounts___init__ cd_BadCounts___init__ ct_BadCounts___init__, f_is_pair := f_is_pair, fd_is_pair := PySem.W.fnOf "_is_pair" "_is_pair" (defArgs s_is_pair) (defBody s_is_pair) (defScope s_is_pair) .none kV_is_pair dc_is_pair pm_is_pair an_is_pair cd_is_pair ct_is_pair, f_Counts_of := f_Counts_of, fd_Counts_of := PySem.W.fnOf "of" "Counts.of" (defArgs s_Counts_of) (defBody s_Counts_of) (defScope s_Counts_of) .none kV_Counts_of dc_Counts_of pm_Counts_of an_Counts_of cd_Counts_of ct_Counts_of, f_law_told := f_law_told, fd_law_told := PySem.W.fnOf "_law_told" "_law_told" (defArgs s_law_told) (defBody s_law_told) (defScope s_law_told) .none kV_law_told dc_law_told pm_law_told an_law_told cd_law_told ct_law_told, f_Counts_words := f_Counts_words, fd_Counts_words := PySem.W.fnOf "words" "Counts.words" (defArgs s_Counts_words) (defBody s_Counts_words) (defScope s_Counts_words) .none kV_Counts_words dc_Counts_words pm_Counts_words an_Counts_words cd_Counts_words ct_Counts_words, f_Counts_pairs := f_Counts_pairs, fd_Counts_pairs := PySem.W.fnOf "pairs" "Counts.pairs" (defArgs s_Counts_pairs) (defBody s_Counts_pairs) (defScope s_Counts_pairs) .none kV_Counts_pairs dc_Counts_pairs pm_Counts_pairs an_Counts_pairs cd_Counts_pairs ct_Counts_pairs, f_law_is_integer := f_law_is_integer, fd_law_is_integer := PySem.W.fnOf "_law_is_integer" "_law_is_integer" (defArgs s_law_is_integer) (defBody s_law_is_integer) (defScope s_law_is_integer) .none kV_law_is_integer dc_law_is_integer pm_law_is_integer an_law_is_integer cd_law_is_integer ct_law_is_integer, f_law_equal := f_law_equal, fd_law_equal := PySem.W.fnOf "_law_equal" "_law_equal" (defArgs s_law_equal) (defBody s_law_equal) (defScope s_law_equal) .none kV_law_equal dc_law_equal pm_law_equal an_law_equal cd_law_equal ct_law_equal, f_law_commas := f_law_commas, fd_law_commas := PySem.W.fnOf "_law_commas" "_law_commas" (defArgs s_law_commas) (defBody s_law_commas) (defScope s_law_commas) .none kV_law_commas dc_law_commas pm_law_commas an_law_commas cd_law_commas ct_law_commas, f_law_line := f_law_line, fd_law_line := PySem.W.fnOf "_law_line" "_law_line" (defArgs s_law_line) (defBody s_law_line) (defScope s_law_line) .none kV_law_line dc_law_line pm_law_line an_law_line cd_law_line ct_law_line, f_Counts_columns := f_Counts_columns, fd_Counts_columns := PySem.W.fnOf "columns" "Counts.columns" (defArgs s_Counts_columns) (defBody s_Counts_columns) (defScope s_Counts_columns) .none kV_Counts_columns dc_Counts_columns pm_Counts_columns an_Counts_columns cd_Counts_columns ct_Counts_columns, f_Counts___repr__ := f_Counts___repr__, fd_Counts___repr__ := PySem.W.fnOf "__repr__" "Counts.__repr__" (defArgs s_Counts___repr__) (defBody s_Counts___repr__) (defScope s_Counts___repr__) .none kV_Counts___repr__ dc_Counts___repr__ pm_Counts___repr__ an_Counts___repr__ cd_Counts___repr__ ct_Counts___repr__, f_law := fa, fd_law := PySem.W.fnOf "law" "law" (defArgs s_law) (defBody s_law) (defScope s_law) .none kV_law dc_law pm_law an_law cd_law ct_law, c_Counts := c_Counts, c_BadWord := c_BadWord, c_BadNumber := c_BadNumber, c_BadCounts := c_BadCounts, p_Counts_of := p_Counts_of } :=
    { vm_BadWord := PySem.W.mg_of X G vm_BadWord,
      ox_BadWord := ⟨⟨_, _, _, _, _, _, _, _, _, _, _, _, _, _, _, xl_BadWord, xr_BadWord⟩, xs_BadWord, xb_BadWord, xt_BadWord, xk_BadWord⟩,
      oi_BadWord := a_BadWord___init__,
      ot_BadWord := xi_BadWord,
      xn_BadWord_word := xn_BadWord_word,
      vm_BadNumber := PySem.W.mg_of X G vm_BadNumber,
      ox_BadNumber := ⟨⟨_, _, _, _, _, _, _, _, _, _, _, _, _, _, _, xl_BadNumber, xr_BadNumber⟩, xs_BadNumber, xb_BadNumber, xt_BadNumber, xk_BadNumber⟩,
      oi_BadNumber := a_BadNumber___init__,
      ot_BadNumber := xi_BadNumber,
      xn_BadNumber_number := xn_BadNumber_number,
      vm_BadCounts := PySem.W.mg_of X G vm_BadCounts,
      ox_BadCounts := ⟨⟨_, _, _, _, _, _, _, _, _, _, _, _, _, _, _, xl_BadCounts, xr_BadCounts⟩, xs_BadCounts, xb_BadCounts, xt_BadCounts, xk_BadCounts⟩,
      oi_BadCounts := a_BadCounts___init__,
      ot_BadCounts := xi_BadCounts,
      xn_BadCounts_at := xn_BadCounts_at,
      F_law_source := fun_mk (st := s_law_source) l_law_source cd2_law_source kp_law_source,
      m_law_source := PySem.W.mg_of X G a_law_source,
      k_law_source := kp_law_source,
      b_law_source := (fun_mk (st := s_law_source) l_law_source cd2_law_source kp_law_source).binds (ps := ["script"]) fun _ _ _ _ _ _ us hl => match us, hl with | [_], _ => rfl,
      F_law_mixed := fun_mk (st := s_law_mixed) l_law_mixed cd2_law_mixed kp_law_mixed,
      m_law_mixed := PySem.W.mg_of X G a_law_mixed,
      k_law_mixed := kp_law_mixed,
      b_law_mixed := (fun_mk (st := s_law_mixed) l_law_mixed cd2_law_mixed kp_law_mixed).binds (ps := ["cell", "count"]) fun _ _ _ _ _ _ us hl => match us, hl with | [_, _], _ => rfl,
      F_law_draw := fun_mk (st := s_law_draw) l_law_draw cd2_law_draw kp_law_draw,
      m_law_draw := PySem.W.mg_of X G a_law_draw,
      k_law_draw := kp_law_draw,
      b_law_draw := (fun_mk (st := s_law_draw) l_law_draw cd2_law_draw kp_law_draw).binds (ps := ["source", "size"]) fun _ _ _ _ _ _ us hl => match us, hl with | [_, _], _ => rfl,
      F_law_word := fun_mk (st := s_law_word) l_law_word cd2_law_word kp_law_word,
      m_law_word := PySem.W.mg_of X G a_law_word,
      k_law_word := kp_law_word,
      b_law_word := (fun_mk (st := s_law_word) l_law_word cd2_law_word kp_law_word).binds (ps := ["source"]) fun _ _ _ _ _ _ us hl => match us, hl with | [_], _ => rfl,
      F_law_number := fun_mk (st := s_law_number) l_law_number cd2_law_number kp_law_number,
      m_law_number := PySem.W.mg_of X G a_law_number,
      k_law_number := kp_law_number,
      b_law_number := (fun_mk (st := s_law_number) l_law_number cd2_law_number kp_law_number).binds (ps := ["source"]) fun _ _ _ _ _ _ us hl => match us, hl with | [_], _ => rfl,
      F_law_pairs := fun_mk (st := s_law_pairs) l_law_pairs cd2_law_pairs kp_law_pairs,
      m_law_pairs := PySem.W.mg_of X G a_law_pairs,
      k_law_pairs := kp_law_pairs,
      b_law_pairs := (fun_mk (st := s_law_pairs) l_law_pairs cd2_law_pairs kp_law_pairs).binds (ps := ["source", "most"]) fun _ _ _ _ _ _ us hl => match us, hl with | [_, _], _ => rfl,
      F_law_model := fun_mk (st := s_law_model) l_law_model cd2_law_model kp_law_model,
      m_law_model := PySem.W.mg_of X G a_law_model,
      k_law_model := kp_law_model,
      b_law_model := (fun_mk (st := s_law_model) l_law_model cd2_law_model kp_law_model).binds (ps := ["pairs"]) fun _ _ _ _ _ _ us hl => match us, hl with | [_], _ => rfl,
      F_is_word := fun_mk (st := s_is_word) l_is_word cd2_is_word kp_is_word,
      m_is_word := PySem.W.mg_of X G a_is_word,
      k_is_word := kp_is_word,
      b_is_word := (fun_mk (st := s_is_word) l_is_word cd2_is_word kp_is_word).binds (ps := ["value"]) fun _ _ _ _ _ _ us hl => match us, hl with | [_], _ => rfl,
      F_BadWord___init__ := fun_mk (st := s_BadWord___init__) l_BadWord___init__ cd2_BadWord___init__ kp_BadWord___init__,
      b_BadWord___init__ := (fun_mk (st := s_BadWord___init__) l_BadWord___init__ cd2_BadWord___init__ kp_BadWord___init__).binds (ps := ["self", "word"]) fun _ _ _ _ _ _ us hl => match us, hl with | [_, _], _ => rfl,
      F_check_word := fun_mk (st := s_check_word) l_check_word cd2_check_word kp_check_word,
      m_check_word := PySem.W.mg_of X G a_check_word,
      k_check_word := kp_check_word,
      b_check_word := (fun_mk (st := s_check_word) l_check_word cd2_check_word kp_check_word).binds (ps := ["word"]) fun _ _ _ _ _ _ us hl => match us, hl with | [_], _ => rfl,
      F_is_number := fun_mk (st := s_is_number) l_is_number cd2_is_number kp_is_number,
      m_is_number := PySem.W.mg_of X G a_is_number,
      k_is_number := kp_is_number,
      b_is_number := (fun_mk (st := s_is_number) l_is_number cd2_is_number kp_is_number).binds (ps := ["value"]) fun _ _ _ _ _ _ us hl => match us, hl with | [_], _ => rfl,
      F_is_short := fun_mk (st := s_is_short) l_is_short cd2_is_short kp_is_short,
      m_is_short := PySem.W.mg_of X G a_is_short,
      k_is_short := kp_is_short,
      b_is_short := (fun_mk (st := s_is_short) l_is_short cd2_is_short kp_is_short).binds (ps := ["value"]) fun _ _ _ _ _ _ us hl => match us, hl with | [_], _ => rfl,
      F_BadNumber___init__ := fun_mk (st := s_BadNumber___init__) l_BadNumber___init__ cd2_BadNumber___init__ kp_BadNumber___init__,
      b_BadNumber___init__ := (fun_mk (st := s_BadNumber___init__) l_BadNumber___init__ cd2_BadNumber___init__ kp_BadNumber___init__).binds (ps := ["self", "number"]) fun _ _ _ _ _ _ us hl => match us, hl with | [_, _], _ => rfl,
      F_check_number := fun_mk (st := s_check_number) l_check_number cd2_check_number kp_check_number,
      m_check_number := PySem.W.mg_of X G a_check_number,
      k_check_number := kp_check_number,
      b_check_number := (fun_mk (st := s_check_number) l_check_number cd2_check_number kp_check_number).binds (ps := ["number"]) fun _ _ _ _ _ _ us hl => match us, hl with | [_], _ => rfl,
      F_Counts___init__ := fun_mk (st := s_Counts___init__) l_Counts___init__ cd2_Counts___init__ kp_Counts___init__,
      F_counts_of := fun_mk (st := s_counts_of) l_counts_of cd2_counts_of kp_counts_of,
      m_counts_of := PySem.W.mg_of X G a_counts_of,
      k_counts_of := kp_counts_of,
      b_counts_of := (fun_mk (st := s_counts_of) l_counts_of cd2_counts_of kp_counts_of).binds (ps := ["pairs"]) fun _ _ _ _ _ _ us hl => match us, hl with | [_], _ => rfl,
      F_BadCounts___init__ := fun_mk (st := s_BadCounts___init__) l_BadCounts___init__ cd2_BadCounts___init__ kp_BadCounts___init__,
      b_BadCounts___init__ := (fun_mk (st := s_BadCounts___init__) l_BadCounts___init__ cd2_BadCounts___init__ kp_BadCounts___init__).binds (ps := ["self", "at"]) fun _ _ _ _ _ _ us hl => match us, hl with | [_, _], _ => rfl,
      F_is_pair := fun_mk (st := s_is_pair) l_is_pair cd2_is_pair kp_is_pair,
      m_is_pair := PySem.W.mg_of X G a_is_pair,
      k_is_pair := kp_is_pair,
      b_is_pair := (fun_mk (st := s_is_pair) l_is_pair cd2_is_pair kp_is_pair).binds (ps := ["value"]) fun _ _ _ _ _ _ us hl => match us, hl with | [_], _ => rfl,
      cm_Counts_of := ⟨cm_Counts_of, ⟨_, rc_Counts_of⟩, fi_Counts_of⟩,
      F_Counts_of := fun_mk (st := s_Counts_of) l_Counts_of cd2_Counts_of kp_Counts_of,
      b_Counts_of := (fun_mk (st := s_Counts_of) l_Counts_of cd2_Counts_of kp_Counts_of).binds (ps := ["cls", "pairs"]) fun _ _ _ _ _ _ us hl => match us, hl with | [_, _], _ => rfl,
      F_law_told := fun_mk (st := s_law_told) l_law_told cd2_law_told kp_law_told,
      m_law_told := PySem.W.mg_of X G a_law_told,
      k_law_told := kp_law_told,
      b_law_told := (fun_mk (st := s_law_told) l_law_told cd2_law_told kp_law_told).binds (ps := ["model"]) fun _ _ _ _ _ _ us hl => match us, hl with | [_], _ => rfl,
      F_Counts_words := fun_mk (st := s_Counts_words) l_Counts_words cd2_Counts_words kp_Counts_words,
      mt_Counts_words := ⟨a_Counts_words, fn_Counts_words, kp_Counts_words⟩,
      b_Counts_words := (fun_mk (st := s_Counts_words) l_Counts_words cd2_Counts_words kp_Counts_words).binds (ps := ["self"]) fun _ _ _ _ _ _ us hl => match us, hl with | [_], _ => rfl,
      F_Counts_pairs := fun_mk (st := s_Counts_pairs) l_Counts_pairs cd2_Counts_pairs kp_Counts_pairs,
      mt_Counts_pairs := ⟨a_Counts_pairs, fn_Counts_pairs, kp_Counts_pairs⟩,
      b_Counts_pairs := (fun_mk (st := s_Counts_pairs) l_Counts_pairs cd2_Counts_pairs kp_Counts_pairs).binds (ps := ["self"]) fun _ _ _ _ _ _ us hl => match us, hl with | [_], _ => rfl,
      F_law_is_integer := fun_mk (st := s_law_is_integer) l_law_is_integer cd2_law_is_integer kp_law_is_integer,
      m_law_is_integer := PySem.W.mg_of X G a_law_is_integer,
      k_law_is_integer := kp_law_is_integer,
      b_law_is_integer := (fun_mk (st := s_law_is_integer) l_law_is_integer cd2_law_is_integer kp_law_is_integer).binds (ps := ["thing"]) fun _ _ _ _ _ _ us hl => match us, hl with | [_], _ => rfl,
      F_law_equal := fun_mk (st := s_law_equal) l_law_equal cd2_law_equal kp_law_equal,
      m_law_equal := PySem.W.mg_of X G a_law_equal,
      k_law_equal := kp_law_equal,
      b_law_equal := (fun_mk (st := s_law_equal) l_law_equal cd2_law_equal kp_law_equal).binds (ps := ["counts", "model"]) fun _ _ _ _ _ _ us hl => match us, hl with | [_, _], _ => rfl,
      F_law_commas := fun_mk (st := s_law_commas) l_law_commas cd2_law_commas kp_law_commas,
      m_law_commas := PySem.W.mg_of X G a_law_commas,
      k_law_commas := kp_law_commas,
      b_law_commas := (fun_mk (st := s_law_commas) l_law_commas cd2_law_commas kp_law_commas).binds (ps := ["number"]) fun _ _ _ _ _ _ us hl => match us, hl with | [_], _ => rfl,
      F_law_line := fun_mk (st := s_law_line) l_law_line cd2_law_line kp_law_line,
      m_law_line := PySem.W.mg_of X G a_law_line,
      k_law_line := kp_law_line,
      b_law_line := (fun_mk (st := s_law_line) l_law_line cd2_law_line kp_law_line).binds (ps := ["word", "number"]) fun _ _ _ _ _ _ us hl => match us, hl with | [_, _], _ => rfl,
      F_Counts_columns := fun_mk (st := s_Counts_columns) l_Counts_columns cd2_Counts_columns kp_Counts_columns,
      mt_Counts_columns := ⟨a_Counts_columns, fn_Counts_columns, kp_Counts_columns⟩,
      F_Counts___repr__ := fun_mk (st := s_Counts___repr__) l_Counts___repr__ cd2_Counts___repr__ kp_Counts___repr__,
      mt_Counts___repr__ := ⟨a_Counts___repr__, fn_Counts___repr__, kp_Counts___repr__⟩,
      b_Counts___repr__ := (fun_mk (st := s_Counts___repr__) l_Counts___repr__ cd2_Counts___repr__ kp_Counts___repr__).binds (ps := ["self"]) fun _ _ _ _ _ _ us hl => match us, hl with | [_], _ => rfl,
      F_law := fun_mk (st := s_law) l_law cd2_law kp_law,
      m_law := PySem.W.mg_of X G a_law,
      k_law := kp_law,
      b_law := (fun_mk (st := s_law) l_law cd2_law kp_law).binds (ps := ["script"]) fun _ _ _ _ _ _ us hl => match us, hl with | [_], _ => rfl,
      n_abs := PySem.W.mg_none_of X G z_abs,
      n_all := PySem.W.mg_none_of X G z_all,
      n_bool := PySem.W.mg_none_of X G z_bool,
      n_enumerate := PySem.W.mg_none_of X G z_enumerate,
      n_int := PySem.W.mg_none_of X G z_int,
      n_isinstance := PySem.W.mg_none_of X G z_isinstance,
      n_len := PySem.W.mg_none_of X G z_len,
      n_list := PySem.W.mg_none_of X G z_list,
      n_range := PySem.W.mg_none_of X G z_range,
      n_repr := PySem.W.mg_none_of X G z_repr,
      n_sorted := PySem.W.mg_none_of X G z_sorted,
      n_str := PySem.W.mg_none_of X G z_str,
      n_tuple := PySem.W.mg_none_of X G z_tuple,
      vm_Counts := PySem.W.mg_of X G vm_Counts,
      kl_Counts := ⟨⟨pg_Counts, hd_Counts, po_Counts, sa_Counts⟩, by intro f hf; simp only [List.mem_cons, List.not_mem_nil, or_false] at hf; rcases hf with rfl <;> assumption⟩,
      ns_Counts := ns_Counts,
      sf_Counts := sf_Counts,
      nf_Counts := nf_Counts,
      ki_Counts := ⟨ia_Counts, ihn, iht, im_Counts⟩,
      mk_Counts := ⟨mk_Counts, a_Counts___init__, fn_Counts, kc_Counts⟩,
      r_Counts := ⟨rd_Counts, ga_Counts⟩,
      u_Counts___init__ := u_Counts___init__,
      kp_Counts___init__ := kp_Counts___init__,
      kit_Counts_Counts := kit_Counts_Counts,
      e_LETTERS := ⟨_, PySem.W.mg_of X G ec_LETTERS, er_LETTERS⟩,
      e_BEYOND := ⟨_, PySem.W.mg_of X G ec_BEYOND, er_BEYOND⟩ }
  exact ⟨PySem.W.fnOf "law" "law" (defArgs s_law) (defBody s_law) (defScope s_law) .none kV_law dc_law pm_law an_law cd_law ct_law, fun s v => .of_eq rfl, fun base _ _ => ok_law T⟩
theorem walk {l : PySem.W.OpenLaw} {q : Program} {loose : List Str} {XP : (Str → Option Value) → Heap → Prop} {YP : World → Heap → Prop} {d : DefRec} {K : Params → PySem.W.Frag} (hn : l.most = some 63) (hdf : d.params.defaults = [])
    (hY : ∀ (w : World) (h : Heap), YP w h → (K w.params).In h)
    (F : ∀ (w : World) (mg : Str → Option Value) (fa : Addr) (h : Heap), (K w.params).In h → h.Ns mainGlobals mg → mg d.name = some (.ref fa) →
      ∃ fd : FuncData, (∀ (s : Shared) (u : Value), BindsTo s fd ⟨[u], []⟩ [("script", u)]) ∧ ∀ base : Heap, (K w.params).In base → base.Ns mainGlobals mg → FnOk l.prog w (K w.params) mg base CX0 9 fa fd ["script"] (sp_law (K w.params))) :
    PySem.W.WalkO q loose XP YP l.row.toRowW d [] (fun f vs => PySem.call f vs) :=
  L2.walk_of (n := 63) (k := 9) (x := "script") (CX := fun _ => CX0) (sp := fun w => sp_law (K w.params)) hn (by decide) hdf ⟨rfl, by decide, by decide⟩ hY F (fun _ _ a ns hl _ hS => ⟨a, ns, rfl, hS, hl, fun _ => rfl⟩) fun _ _ _ _ _ z => z
end Y
def Y.names : List PySem.Str := (["_wall", "CountsheldError", "BadWord", "BadNumber", "BadCounts", "NoDivisor", "_LETTERS", "_BEYOND", "is_word", "is_number", "is_short", "Counts", "_check_word", "_check_number", "_is_pair", "_counts_of", "_beside", "_check_divisor", "_law_source", "_law_mixed", "_law_draw", "_law_word", "_law_number", "_law_pairs", "_law_model", "_law_told", "_law_is_integer", "_law_equal", "_law_commas", "_law_line"] : List PySem.Str)
local macro_rules | `(tactic| o_headL $H:term) => `(tactic| refine HandSHeadRun.head_any (r := PySem.W.OpenLaw.row PySem.Challenge.rw_countsheld_k09_columns_and_texts) (q := PySem.W.view (PySem.W.OpenLaw.row PySem.Challenge.rw_countsheld_k09_columns_and_texts).prog [34]) (H := $H) (M := 20000) (loose := Y.names) (d := HandSHeadRun.topDef (PySem.W.OpenLaw.row PySem.Challenge.rw_countsheld_k09_columns_and_texts).prog 34) (kwd := []) (fun s => List.map_congr_left fun a _ => HandSHeadRun.getT_eq s a)
    (by kernel_rfl) (fun s => by kernel_rfl) (fun w => by intro os; kernel_rfl) (by kernel_rfl) (by kernel_rfl) (by kernel_rfl) (by rfl) (by first | assumption | decide +kernel) (by decide +kernel) ⟨rfl, rfl, rfl, rfl, rfl, by decide +kernel⟩ ?hw ?hc)
open PySem PySem.W PyProof.Rows
set_option maxRecDepth 100000 in
set_option maxHeartbeats 0 in
theorem PySem.Challenge.cw_countsheld_k09_columns_and_texts_holds : PySem.Challenge.rw_countsheld_k09_columns_and_texts.Holds := by
  w_on; o_law; k_headL; (case hw => w_witness2)
  k_fill
  refine Y.walk (l := PySem.Challenge.rw_countsheld_k09_columns_and_texts) rfl (by kernel_rfl) (fun w h Y => PySem.W.kIn_of Y) ?F
  case F =>
    intro w mg fa h KX G hmg0
    have hmg : mg ("law" : PySem.Str) = some (.ref fa) := by
      have e : (HandSHeadRun.topDef (PySem.W.OpenLaw.row PySem.Challenge.rw_countsheld_k09_columns_and_texts).prog 34).name = ("law" : PySem.Str) := by kernel_rfl
      rw [← e]
      exact hmg0
    refine' Y.all_mk KX G hmg ?a_law_source ?a_law_mixed ?a_law_draw ?a_law_word ?a_law_number ?a_law_pairs ?a_law_model ?a_is_word ?a_check_word ?a_is_number ?a_is_short ?a_check_number ?a_counts_of ?a_is_pair ?a_law_told ?a_law_is_integer ?a_law_equal ?a_law_commas ?a_law_line ?a_law ?vm_Counts ?vm_BadWord ?vm_BadNumber ?vm_BadCounts ?l_law_source ?cd2_law_source ?kp_law_source ?l_law_mixed ?cd2_law_mixed ?kp_law_mixed ?l_law_draw ?cd2_law_draw ?kp_law_draw ?l_law_word ?cd2_law_word ?kp_law_word ?l_law_number ?cd2_law_number ?kp_law_number ?l_law_pairs ?cd2_law_pairs ?kp_law_pairs ?l_law_model ?cd2_law_model ?kp_law_model ?l_is_word ?cd2_is_word ?kp_is_word ?a_BadWord___init__ ?l_BadWord___init__ ?cd2_BadWord___init__ ?kp_BadWord___init__ ?l_check_word ?cd2_check_word ?kp_check_word ?l_is_number ?cd2_is_number ?kp_is_number ?l_is_short ?cd2_is_short ?kp_is_short ?a_BadNumber___init__ ?l_BadNumber___init__ ?cd2_BadNumber___init__ ?kp_BadNumber___init__ ?l_check_number ?cd2_check_number ?kp_check_number ?a_Counts___init__ ?l_Counts___init__ ?cd2_Counts___init__ ?kp_Counts___init__ ?l_counts_of ?cd2_counts_of ?kp_counts_of ?a_BadCounts___init__ ?l_BadCounts___init__ ?cd2_BadCounts___init__ ?kp_BadCounts___init__ ?l_is_pair ?cd2_is_pair ?kp_is_pair ?cm_Counts_of ?rc_Counts_of ?fi_Counts_of ?l_Counts_of ?cd2_Counts_of ?kp_Counts_of ?l_law_told ?cd2_law_told ?kp_law_told ?a_Counts_words ?l_Counts_words ?cd2_Counts_words ?kp_Counts_words ?fn_Counts_words ?a_Counts_pairs ?l_Counts_pairs ?cd2_Counts_pairs ?kp_Counts_pairs ?fn_Counts_pairs ?l_law_is_integer ?cd2_law_is_integer ?kp_law_is_integer ?l_law_equal ?cd2_law_equal ?kp_law_equal ?l_law_commas ?cd2_law_commas ?kp_law_commas ?l_law_line ?cd2_law_line ?kp_law_line ?a_Counts_columns ?l_Counts_columns ?cd2_Counts_columns ?kp_Counts_columns ?fn_Counts_columns ?a_Counts___repr__ ?l_Counts___repr__ ?cd2_Counts___repr__ ?kp_Counts___repr__ ?fn_Counts___repr__ ?l_law ?cd2_law ?kp_law ?z_abs ?z_all ?z_bool ?z_enumerate ?z_int ?z_isinstance ?z_len ?z_list ?z_range ?z_repr ?z_sorted ?z_str ?z_tuple ?pg_Counts ?hd_Counts ?po_Counts ?sa_Counts ?ia_Counts ?im_Counts ?na_Counts__numbers ?ns_Counts ?sf_Counts ?nf_Counts ?mk_Counts ?fn_Counts ?kc_Counts ?rd_Counts ?ga_Counts ?u_Counts___init__ ?ihn ?iht ?kit_Counts_Counts ?ec_LETTERS ?er_LETTERS ?ec_BEYOND ?er_BEYOND ?xl_BadWord ?xr_BadWord ?xs_BadWord ?xb_BadWord ?xt_BadWord ?xk_BadWord ?xi_BadWord ?xn_BadWord_word ?xl_BadNumber ?xr_BadNumber ?xs_BadNumber ?xb_BadNumber ?xt_BadNumber ?xk_BadNumber ?xi_BadNumber ?xn_BadNumber_number ?xl_BadCounts ?xr_BadCounts ?xs_BadCounts ?xb_BadCounts ?xt_BadCounts ?xk_BadCounts ?xi_BadCounts ?xn_BadCounts_at
    (case a_law_source => k_is)
    (case a_law_mixed => k_is)
    (case a_law_draw => k_is)
    (case a_law_word => k_is)
    (case a_law_number => k_is)
    (case a_law_pairs => k_is)
    (case a_law_model => k_is)
    (case a_is_word => k_is)
    (case a_check_word => k_is)
    (case a_is_number => k_is)
    (case a_is_short => k_is)
    (case a_check_number => k_is)
    (case a_counts_of => k_is)
    (case a_is_pair => k_is)
    (case a_law_told => k_is)
    (case a_law_is_integer => k_is)
    (case a_law_equal => k_is)
    (case a_law_commas => k_is)
    (case a_law_line => k_is)
    (case a_law => k_is)
    (case vm_Counts => k_is)
    (case vm_BadWord => k_is)
    (case vm_BadNumber => k_is)
    (case vm_BadCounts => k_is)
    (case l_law_source => k_is)
    (case cd2_law_source => k_is)
    (case kp_law_source => k_is)
    (case l_law_mixed => k_is)
    (case cd2_law_mixed => k_is)
    (case kp_law_mixed => k_is)
    (case l_law_draw => k_is)
    (case cd2_law_draw => k_is)
    (case kp_law_draw => k_is)
    (case l_law_word => k_is)
    (case cd2_law_word => k_is)
    (case kp_law_word => k_is)
    (case l_law_number => k_is)
    (case cd2_law_number => k_is)
    (case kp_law_number => k_is)
    (case l_law_pairs => k_is)
    (case cd2_law_pairs => k_is)
    (case kp_law_pairs => k_is)
    (case l_law_model => k_is)
    (case cd2_law_model => k_is)
    (case kp_law_model => k_is)
    (case l_is_word => k_is)
    (case cd2_is_word => k_is)
    (case kp_is_word => k_is)
    (case a_BadWord___init__ => k_is)
    (case l_BadWord___init__ => k_is)
    (case cd2_BadWord___init__ => k_is)
    (case kp_BadWord___init__ => k_is)
    (case l_check_word => k_is)
    (case cd2_check_word => k_is)
    (case kp_check_word => k_is)
    (case l_is_number => k_is)
    (case cd2_is_number => k_is)
    (case kp_is_number => k_is)
    (case l_is_short => k_is)
    (case cd2_is_short => k_is)
    (case kp_is_short => k_is)
    (case a_BadNumber___init__ => k_is)
    (case l_BadNumber___init__ => k_is)
    (case cd2_BadNumber___init__ => k_is)
    (case kp_BadNumber___init__ => k_is)
    (case l_check_number => k_is)
    (case cd2_check_number => k_is)
    (case kp_check_number => k_is)
    (case a_Counts___init__ => k_is)
    (case l_Counts___init__ => k_is)
    (case cd2_Counts___init__ => k_is)
    (case kp_Counts___init__ => k_is)
    (case l_counts_of => k_is)
    (case cd2_counts_of => k_is)
    (case kp_counts_of => k_is)
    (case a_BadCounts___init__ => k_is)
    (case l_BadCounts___init__ => k_is)
    (case cd2_BadCounts___init__ => k_is)
    (case kp_BadCounts___init__ => k_is)
    (case l_is_pair => k_is)
    (case cd2_is_pair => k_is)
    (case kp_is_pair => k_is)
    (case cm_Counts_of => k_is)
    (case rc_Counts_of => k_is)
    (case fi_Counts_of => k_is)
    (case l_Counts_of => k_is)
    (case cd2_Counts_of => k_is)
    (case kp_Counts_of => k_is)
    (case l_law_told => k_is)
    (case cd2_law_told => k_is)
    (case kp_law_told => k_is)
    (case a_Counts_words => k_is)
    (case l_Counts_words => k_is)
    (case cd2_Counts_words => k_is)
    (case kp_Counts_words => k_is)
    (case fn_Counts_words => k_is)
    (case a_Counts_pairs => k_is)
    (case l_Counts_pairs => k_is)
    (case cd2_Counts_pairs => k_is)
    (case kp_Counts_pairs => k_is)
    (case fn_Counts_pairs => k_is)
    (case l_law_is_integer => k_is)
    (case cd2_law_is_integer => k_is)
    (case kp_law_is_integer => k_is)
    (case l_law_equal => k_is)
    (case cd2_law_equal => k_is)
    (case kp_law_equal => k_is)
    (case l_law_commas => k_is)
    (case cd2_law_commas => k_is)
    (case kp_law_commas => k_is)
    (case l_law_line => k_is)
    (case cd2_law_line => k_is)
    (case kp_law_line => k_is)
    (case a_Counts_columns => k_is)
    (case l_Counts_columns => k_is)
    (case cd2_Counts_columns => k_is)
    (case kp_Counts_columns => k_is)
    (case fn_Counts_columns => k_is)
    (case a_Counts___repr__ => k_is)
    (case l_Counts___repr__ => k_is)
    (case cd2_Counts___repr__ => k_is)
    (case kp_Counts___repr__ => k_is)
    (case fn_Counts___repr__ => k_is)
    (case l_law => k_is)
    (case cd2_law => k_is)
    (case kp_law => k_is)
    (case z_abs => k_is)
    (case z_all => k_is)
    (case z_bool => k_is)
    (case z_enumerate => k_is)
    (case z_int => k_is)
    (case z_isinstance => k_is)
    (case z_len => k_is)
    (case z_list => k_is)
    (case z_range => k_is)
    (case z_repr => k_is)
    (case z_sorted => k_is)
    (case z_str => k_is)
    (case z_tuple => k_is)
    (case pg_Counts => k_is)
    (case hd_Counts => k_is)
    (case po_Counts => k_is)
    (case sa_Counts => k_is)
    (case ia_Counts => k_is)
    (case im_Counts => k_is)
    (case na_Counts__numbers => k_is)
    (case ns_Counts => k_is)
    (case sf_Counts => k_is)
    (case nf_Counts => k_is)
    (case mk_Counts => k_is)
    (case fn_Counts => k_is)
    (case kc_Counts => k_is)
    (case rd_Counts => k_is)
    (case ga_Counts => k_is)
    (case u_Counts___init__ => k_is)
    (case ihn => k_is)
    (case iht => k_is)
    (case kit_Counts_Counts => kit_is)
    (case ec_LETTERS => k_is)
    (case er_LETTERS => exact ⟨_, rfl⟩)
    (case ec_BEYOND => k_is)
    (case er_BEYOND => exact ⟨_, rfl⟩)
    (case xl_BadWord => k_is)
    (case xr_BadWord => first | rfl | decide +kernel)
    (case xs_BadWord => k_is)
    (case xb_BadWord => k_is)
    (case xt_BadWord => k_is)
    (case xk_BadWord => k_is)
    (case xi_BadWord => k_is)
    (case xn_BadWord_word => k_is)
    (case xl_BadNumber => k_is)
    (case xr_BadNumber => first | rfl | decide +kernel)
    (case xs_BadNumber => k_is)
    (case xb_BadNumber => k_is)
    (case xt_BadNumber => k_is)
    (case xk_BadNumber => k_is)
    (case xi_BadNumber => k_is)
    (case xn_BadNumber_number => k_is)
    (case xl_BadCounts => k_is)
    (case xr_BadCounts => first | rfl | decide +kernel)
    (case xs_BadCounts => k_is)
    (case xb_BadCounts => k_is)
    (case xt_BadCounts => k_is)
    (case xk_BadCounts => k_is)
    (case xi_BadCounts => k_is)
    (case xn_BadCounts_at => k_is)
