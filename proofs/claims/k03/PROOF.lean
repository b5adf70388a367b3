import PyProof.Rows.All
import Wide.All
import OpenK.AllK
import Wide.FinOn
import PyProof.RulesMatch
import HandS.Base
import HandS.Call
import HandS.Words
import HandS.IsInst
import HandS.ForExc
import HandS.Zip
import HandS.Walk
import HandS.Strs
import HandS.ForMost
import HandS.Evl
import HandS.SortInts
import PySem.Challenge.RW_deadbeat_k03_tokens_of_a_text
import HandS.Wide
import HandS.WideBits
import HandS.Style
import HandS.EndBits
import HandS.StrMore
import HandS.IntHex
import HandS.ReSub
import HandS.Codes
import HandS.RaiseMore
import HandS.More
import HandS.SetFor
import HandS.TupLe
set_option Elab.async false
set_option linter.all false
set_option maxRecDepth 100000
namespace L2
open PySem PySem.Spec PyProof.Rows
/-- the cases of a match over texts: a written text or whatever is left, and what is done -/
def tCases (z : Str) : List (Option Str × TS) → TS
  | [] => fun D σ H => D.nx σ H
  | (none, t) :: _ => t
  | (some c, t) :: r => fun D σ H => if z = c then t D σ H else tCases z r D σ H
def tMatch (te : TE) (l : List (Option Str × TS)) : TS := fun D σ H => te σ H fun x H1 => ∃ z : Str, x = .str z ∧ tCases z l D σ H1
inductive PCs (X : Cx) : List MatchCase → List (Option Str × TS) → Prop
  | nil : PCs X [] []
  | rest {body : List Stmt} {t : TS} {p : Pos} {r : List MatchCase} : PSs X body t → PCs X (⟨.MatchAs none none p, none, body⟩ :: r) [(none, t)]
  | text {body : List Stmt} {t : TS} {c : Str} {j : Nat} {p p2 : Pos} {r : List MatchCase} {l : List (Option Str × TS)} : PSs X body t → PCs X r l →
      PCs X (⟨.MatchValue (.Constant (.str c) j p) p2, none, body⟩ :: r) ((some c, t) :: l)
theorem run_cases {X : Cx} {z : Str} {u : Value} (ru : RelV (.str z) u) : ∀ {cs : List MatchCase} {l : List (Option Str × TS)}, PCs X cs l → ∀ (first : Bool) (pins : List (Addr × Obj)) (s : Shared) (σ : St) (H : Hp) (D : Ends), Inv X pins σ H s → tCases z l D σ H →
    wpAny (model X.prog X.w) X.A (matchCases cs X.env u first) (SP X pins D) X.xe s
  | _, _, .nil, first, pins, s, σ, H, D, I, h => wpAny_matchCases_nil ⟨σ, H, I, h⟩
  | _, _, .rest hb, first, pins, s, σ, H, D, I, h => by
    refine wpAny_matchCases_cons (wpAny_matchPattern_Capture ?_)
    exact wpAny_assignInOrder_none (hb.run pins s σ H D I h)
  | _, _, .text (c := c) (l := l) hb hr, first, pins, s, σ, H, D, I, h => by
    refine wpAny_matchCases_cons (wpAny_matchPattern_Value ?_)
    refine thn ((pe_str (X := X) (x := c)).run pins s σ H (fun v H' => v = .str c ∧ H' = H) I ⟨rfl, rfl⟩) fun v s1 hh => ?_
    obtain ⟨x, H1, I1, rx, ex, eH⟩ := hh
    subst ex
    subst eH
    refine thn (op_eq pins s1 σ H1 (.str z) (.str c) u v (fun y H' => y = .bl (decide (V.str z = V.str c)) ∧ H' = H1) I1 ru rx ⟨rfl, rfl, rfl⟩) fun y s2 hh => ?_
    obtain ⟨x, H2, I2, rx2, ex, eH⟩ := hh
    subst ex
    subst eH
    cases rx2
    refine wpAny_truthy_bool ?_
    have h' : (if z = c then _ else _) := h
    by_cases e : z = c
    · rw [if_pos e] at h'
      rw [decide_eq_true (by rw [e])]
      exact wpAny_assignInOrder_none (hb.run pins s2 σ H2 D I2 h')
    · rw [if_neg e] at h'
      rw [decide_eq_false (fun q => e (by injection q))]
      exact run_cases ru hr false pins s2 σ H2 D I2 h'
theorem ps_match {X : Cx} {e : Expr} {te : TE} {cs : List MatchCase} {l : List (Option Str × TS)} {pos : Pos} (he : PE X e te) (hc : PCs X cs l) : PS X (.Match e cs pos) (tMatch te l) := by
  refine ⟨fun pins s σ H D I h => wpAny_Match ?_⟩
  refine thn (he.run pins s σ H _ I h) fun u s1 hh => ?_
  obtain ⟨x, H1, I1, rx, z, ez, hz⟩ := hh
  subst ez
  exact run_cases rx hc true pins s1 σ H1 D I1 hz
/-- a module's constant: an int, a text, an object -/
theorem pe_gi {X : Cx} {x : Str} {n : Int} {t : Tok} {pos : Pos} (hg : Gl X x) (hm : X.mg x = some (.int n t)) (hd : (x == ("__debug__" : Str)) = false := by decide) : PE X (.Name x pos) (tC (.int n)) := pe_glob hg hm ⟨_, rfl⟩ hd
theorem pe_gs {X : Cx} {x : Str} {z : Str} {t : Tok} {pos : Pos} (hg : Gl X x) (hm : X.mg x = some (.str z t)) (hd : (x == ("__debug__" : Str)) = false := by decide) : PE X (.Name x pos) (tC (.str z)) := pe_glob hg hm ⟨_, rfl⟩ hd
theorem pe_gr {X : Cx} {x : Str} {a : Addr} {pos : Pos} (hg : Gl X x) (hm : X.mg x = some (.ref a)) (hd : (x == ("__debug__" : Str)) = false := by decide) : PE X (.Name x pos) (tC (.ref a)) := pe_glob (v := .ref a) hg hm rfl hd
/-- a built-in type as a value -/
theorem pe_ty {X : Cx} {x : Str} {T : String} {pos : Pos} (hg : Gl X x) (hm : X.mg x = none) (hv : bootBuiltins x = some (.type T)) (hn : x ≠ "__name__" := by decide) (hd : (x == ("__debug__" : Str)) = false := by decide) : PE X (.Name x pos) (tC (.ty T)) :=
  ⟨fun _ s _ H _ I h => ld_blt I hg hm hv ⟨.ty T, H, I, rfl, h⟩ hn hd⟩
/-- isinstance of a plain value and a built-in type -/
theorem isi_int {K : PySem.W.Frag} {H : Hp} {Q : VK} {i : Int} (q : Q (.bl true) H) : rIsi K [.int i, .ty "int"] H Q := ⟨_, _, _, _, true, rfl, .ty _, .base (.int _), kit_ty (by decide +kernel), q⟩
theorem isi_int_bool {K : PySem.W.Frag} {H : Hp} {Q : VK} {i : Int} (q : Q (.bl false) H) : rIsi K [.int i, .ty "bool"] H Q := ⟨_, _, _, _, false, rfl, .ty _, .base (.int _), kit_ty (by decide +kernel), q⟩
theorem Same.none {H H' : Hp} (e : Same H H') {p : Addr} (h : H' p = Option.none) : H p = Option.none := Same.free e h
theorem same_new {H : Hp} {p : Addr} {o : HO} (h : H p = Option.none) : Same H (upd H p o) := fun b x e => by
  rw [upd_ne (ne_of_none e h)]
  exact e
theorem or_test {t u : TT} {σ : St} {H : Hp} {a b : Bool} {Q : Bool → Hp → Prop} (h1 : ∀ Q' : Bool → Hp → Prop, Q' a H → t σ H Q') (h2 : a = false → ∀ Q' : Bool → Hp → Prop, Q' b H → u σ H Q') (q : Q (a || b) H) : tOr t u σ H Q := by
  refine h1 _ ?_
  cases a with
  | true => exact iteT q
  | false => exact iteF (h2 rfl _ q)
theorem and_test {t u : TT} {σ : St} {H : Hp} {a b : Bool} {Q : Bool → Hp → Prop} (h1 : ∀ Q' : Bool → Hp → Prop, Q' a H → t σ H Q') (h2 : a = true → ∀ Q' : Bool → Hp → Prop, Q' b H → u σ H Q') (q : Q (a && b) H) : tAnd t u σ H Q := by
  refine h1 _ ?_
  cases a with
  | true => exact iteT (h2 rfl _ q)
  | false => exact iteF q
theorem if_or {t u : TT} {a b : Bool} {A B : TS} {D : Ends} {σ : St} {H : Hp} (h1 : ∀ Q' : Bool → Hp → Prop, Q' a H → t σ H Q') (h2 : a = false → ∀ Q' : Bool → Hp → Prop, Q' b H → u σ H Q') (q : if (a || b) = true then A D σ H else B D σ H) : tIfS (tOr t u) A B D σ H := or_test h1 h2 q
theorem if_and {t u : TT} {a b : Bool} {A B : TS} {D : Ends} {σ : St} {H : Hp} (h1 : ∀ Q' : Bool → Hp → Prop, Q' a H → t σ H Q') (h2 : a = true → ∀ Q' : Bool → Hp → Prop, Q' b H → u σ H Q') (q : if (a && b) = true then A D σ H else B D σ H) : tIfS (tAnd t u) A B D σ H := and_test h1 h2 q
theorem Same.off {H H1 : Hp} {D : Addr} {x : HO} (k : Same H H1) (n : H D = Option.none) : Same H (upd H1 D x) := fun b y e => by
  rw [upd_ne (ne_of_none e n)]
  exact k b y e
theorem Same.seqT {K : PySem.W.Frag} {H H' : Hp} {a : Addr} {xs : List V} (e : Same H H') (h : SqT K H a xs) : SqT K H' a xs := by
  rcases h with h | h
  · rcases h with h | ⟨o, h⟩
    · exact .inl (.inl (e _ _ h))
    · exact .inl (.inr ⟨o, e _ _ h⟩)
  · exact .inr h
/-- a def that may raise, called where it does not -/
theorem pass_no {X : Cx} : Passes (L2.CX X.prog X.w) X (fun _ _ _ => False) := fun _ _ _ _ _ _ _ c => by
  obtain ⟨_, _, _, _, _, _, _, _, _, _, _, _, z⟩ := c
  exact z.elim
def rListOf (K : PySem.W.Frag) : List V → Hp → VK → Prop := fun xs H Q => ∃ p ys, xs = [V.ref p] ∧ (SqL K H p ys ∨ SqT K H p ys) ∧ ∀ l, H l = Option.none → Q (.ref l) (upd H l (.lst ys))
theorem if_t {b : Bool} {A B : Prop} (h : b = true) (q : A) : if b = true then A else B := by
  rw [if_pos h]
  exact q
theorem if_f {b : Bool} {A B : Prop} (h : b = false) (q : B) : if b = true then A else B := by
  rw [if_neg (by rw [h]; exact Bool.noConfusion)]
  exact q
/-- a tuple of the written part, as it stands there -/
theorem sqT_lit {K : PySem.W.Frag} {p : Addr} {dd : Option Addr} {us : Array Value} {n : Nat} {sl : Array (Option Value)} {xs : List V} {H : Hp} (w : K.lookup p = some ⟨.type "tuple", dd, .seq us n, sl⟩) (y : Vals xs us.toList) (hl : xs.length ≤ sizeLine := by decide) : SqT K H p xs :=
  .inr ⟨_, us, n, w, rfl, rfl, Nat.le_trans (Nat.le_of_eq (by rw [← Array.length_toList]; exact (Paired.length y).symm)) hl, y⟩
end L2

set_option Elab.async false
set_option linter.all false
set_option maxRecDepth 100000
namespace Rd
open PySem PySem.Spec PyProof.Rows L2
variable {K : PySem.W.Frag} {σ : L2.St} {H : Hp} {D : Ends} {Q : VK} {ta tb te tc : TE} {t u c : TT} {ts tu : TS} {g : TG} {x y v : V} {vs : List V} {tr : TA} {a b : Option V} {r : L2.St}
theorem seq (h : ts { D with nx := tu D } σ H) : tSeq ts tu D σ H := h
theorem next (h : D.nx σ H) : tNext D σ H := h
theorem brk (h : D.bk σ H) : tBreak D σ H := h
theorem cont (h : D.ct σ H) : tCont D σ H := h
theorem asg (h : te σ H fun x H1 => g x σ H1 D.nx) : tAsg te g D σ H := h
theorem ret (h : te σ H D.rt) : tRet te D σ H := h
theorem retN (h : D.rt .non H) : tRetN D σ H := h
theorem drop (h : te σ H fun _ H1 => D.nx σ H1) : tDrop te D σ H := h
theorem ifs (h : c σ H fun b H1 => if b = true then ts D σ H1 else tu D σ H1) : tIfS c ts tu D σ H := h
theorem ife (h : t σ H fun b H1 => if b = true then ta σ H1 Q else tb σ H1 Q) : tIf t ta tb σ H Q := h
theorem test {Q : Bool → Hp → Prop} (h : te σ H fun x H1 => ∃ k, x = .bl k ∧ Q k H1) : tTest te σ H Q := h
theorem tb_ {Q : Bool → Hp → Prop} (h : te σ H fun x H1 => ∃ k, x = .bl k ∧ Q k H1) : tB te σ H Q := h
theorem bl {b : Bool} {Q : Bool → Hp → Prop} (h : Q b H) : ∃ k, V.bl b = .bl k ∧ Q k H := ⟨b, rfl, h⟩
theorem bl2 {b : Bool} {P : Bool → Prop} (h : P b) : ∃ k, V.bl b = .bl k ∧ P k := ⟨b, rfl, h⟩
theorem and_ {Q : Bool → Hp → Prop} (h : t σ H fun c H1 => if c = true then u σ H1 Q else Q false H1) : tAnd t u σ H Q := h
theorem or_ {Q : Bool → Hp → Prop} (h : t σ H fun c H1 => if c = true then Q true H1 else u σ H1 Q) : tOr t u σ H Q := h
theorem not_ {Q : Bool → Hp → Prop} (h : t σ H fun c H1 => Q (!c) H1) : tNot t σ H Q := h
theorem andV (h : ta σ H fun x H1 => ∃ c, x = .bl c ∧ if c = true then tb σ H1 Q else Q (.bl false) H1) : tAndV ta tb σ H Q := h
theorem orV (h : ta σ H fun x H1 => ∃ c, x = .bl c ∧ if c = true then Q (.bl true) H1 else tb σ H1 Q) : tOrV ta tb σ H Q := h
theorem notV (h : ta σ H fun x H1 => ∃ c, x = .bl c ∧ Q (.bl (!c)) H1) : tNotV ta σ H Q := h
theorem op {r : R2} (h : ta σ H fun x H1 => tb σ H1 fun y H2 => r x y H2 Q) : tOp r ta tb σ H Q := h
theorem un {r : V → Hp → VK → Prop} (h : ta σ H fun x H1 => r x H1 Q) : tUn r ta σ H Q := h
theorem I0 {f : Int → Int → V} {i j : Int} (h : Q (f i j) H) : rI0 f (.int i) (.int j) H Q := ⟨i, j, rfl, rfl, h⟩
theorem I {C : Int → Int → Prop} {f : Int → Int → V} {i j : Int} (c : C i j) (h : Q (f i j) H) : rI C f (.int i) (.int j) H Q := ⟨i, j, rfl, rfl, c, h⟩
theorem U {f : Int → V} {i : Int} (h : Q (f i) H) : rU f (.int i) H Q := ⟨i, rfl, h⟩
theorem ip {f : Int → Int → Int} {i j : Int} (h : Q (.int (f i j)) H) : ipI f (.int i) (.int j) H Q := ⟨i, j, rfl, rfl, h⟩
theorem eq (s : scal x y = true) (h : Q (.bl (decide (x = y))) H) : rEq x y H Q := ⟨s, h⟩
theorem ne (s : scal x y = true) (h : Q (.bl (!decide (x = y))) H) : rNe x y H Q := ⟨s, h⟩
theorem c_ (h : Q v H) : tC v σ H Q := h
theorem nil {Q : List V → Hp → Prop} (h : Q [] H) : tNil σ H Q := h
theorem cons {Q : List V → Hp → Prop} (h : ta σ H fun x H1 => tr σ H1 fun xs H2 => Q (x :: xs) H2) : tCons ta tr σ H Q := h
theorem tup (h : tr σ H fun xs H1 => xs.length ≤ sizeLine ∧ ∀ p, H1 p = none → Q (.ref p) (upd H1 p (.tup xs))) : tTup tr σ H Q := h
theorem lst (h : tr σ H fun xs H1 => xs.length ≤ sizeLine ∧ ∀ p, H1 p = none → Q (.ref p) (upd H1 p (.lst xs))) : tLst tr σ H Q := h
theorem newT {xs : List V} (s : xs.length ≤ sizeLine) (h : ∀ p, H p = none → Q (.ref p) (upd H p (.tup xs))) : xs.length ≤ sizeLine ∧ ∀ p, H p = none → Q (.ref p) (upd H p (.tup xs)) := ⟨s, h⟩
theorem newL {xs : List V} (s : xs.length ≤ sizeLine) (h : ∀ p, H p = none → Q (.ref p) (upd H p (.lst xs))) : xs.length ≤ sizeLine ∧ ∀ p, H p = none → Q (.ref p) (upd H p (.lst xs)) := ⟨s, h⟩
theorem szA {xs : List V} {A : Prop} (s : xs.length ≤ sizeLine) (h : A) : xs.length ≤ sizeLine ∧ A := ⟨s, h⟩
theorem call {sp : Sp} {dvs : List V} {E : XK} (h : tr σ H fun vs H1 => sp (vs ++ dvs) H1 Q E) : tCall sp dvs E tr σ H Q := h
theorem cb {f : List V → Hp → VK → Prop} (h : tr σ H fun vs H1 => f vs H1 Q) : tCB f tr σ H Q := h
theorem bm {T : String} {f : V → List V → Hp → VK → Prop} (h : te σ H fun x H1 => tyV K T x H1 ∧ tr σ H1 fun xs H2 => f x xs H2 Q) : tBM K T f te tr σ H Q := h
theorem bm0 {T : String} {f : V → List V → Hp → VK → Prop} (h : te σ H fun x H1 => tyV K T x H1 ∧ f x [] H1 Q) : tBM0 K T f te σ H Q := h
theorem tyL {p : Addr} {xs : List V} {A : Prop} (s : H p = some (.lst xs)) (h : A) : tyV K "list" (.ref p) H ∧ A := ⟨.inl ⟨rfl, _, SqL.of s⟩, h⟩
theorem tyLq {p : Addr} {xs : List V} {A : Prop} (s : SqL K H p xs) (h : A) : tyV K "list" (.ref p) H ∧ A := ⟨.inl ⟨rfl, _, s⟩, h⟩
theorem tyS {z : Str} {A : Prop} (h : A) : tyV K "str" (.str z) H ∧ A := ⟨rfl, h⟩
theorem app {l : Addr} {xs : List V} (h : H l = some (.lst xs)) (s : xs.length < sizeLine) (q : Q .non (upd H l (.lst (xs ++ [y])))) : rAppend (.ref l) [y] H Q := ⟨l, xs, y, rfl, rfl, h, s, q⟩
theorem sl {f : V → Option Int → Option Int → Hp → VK → Prop} {tl th : TO} (h : te σ H fun x H1 => tl σ H1 fun l H2 => th σ H2 fun u H3 => f x l u H3 Q) : L2.tSl f te tl th σ H Q := h
theorem nopart {Q : Option Int → Hp → Prop} (h : Q none H) : tNoPart σ H Q := h
theorem part {Q : Option Int → Hp → Prop} (h : te σ H fun x H1 => ∃ i, x = .int i ∧ Q (some i) H1) : tPart te σ H Q := h
theorem int1 {i : Int} {P : Int → Prop} (h : P i) : ∃ j, V.int i = .int j ∧ P j := ⟨i, rfl, h⟩
theorem ints1 {i : Int} {P : Int → Prop} (h : P i) : ∃ j, [V.int i] = [.int j] ∧ P j := ⟨i, rfl, h⟩
theorem ints2 {i j : Int} {P : Int → Int → Prop} (h : P i j) : ∃ a b, [V.int i, V.int j] = [.int a, .int b] ∧ P a b := ⟨i, j, rfl, h⟩
theorem ixLq {p : Addr} {xs : List V} {i : Int} (h : SqL K H p xs) (e : atI xs i = some v) (q : Q v H) : rIxL K (.ref p) (.int i) H Q := ⟨p, xs, i, v, rfl, rfl, h, e, q⟩
theorem ixL {p : Addr} {xs : List V} {i : Int} (h : H p = some (.lst xs)) (e : atI xs i = some v) (q : Q v H) : rIxL K (.ref p) (.int i) H Q := ⟨p, xs, i, v, rfl, rfl, SqL.of h, e, q⟩
theorem ixT {p : Addr} {xs : List V} {i : Int} (h : H p = some (.tup xs)) (e : atI xs i = some v) (q : Q v H) : rIxT K (.ref p) (.int i) H Q := ⟨p, xs, i, v, rfl, rfl, SqT.of h, e, q⟩
theorem ixTq {p : Addr} {xs : List V} {i : Int} (h : SqT K H p xs) (e : atI xs i = some v) (q : Q v H) : rIxT K (.ref p) (.int i) H Q := ⟨p, xs, i, v, rfl, rfl, h, e, q⟩
theorem gtup {p : Addr} {xs : List V} {n : Nat} {f : TGs} {Q : L2.St → Hp → Prop} (h : H p = some (.tup xs)) (l : xs.length = n) (q : f xs σ H Q) : gTup K n f (.ref p) σ H Q := ⟨p, xs, rfl, SqT.of h, l, q⟩
theorem gtupq {p : Addr} {xs : List V} {n : Nat} {f : TGs} {Q : L2.St → Hp → Prop} (h : SqT K H p xs) (l : xs.length = n) (q : f xs σ H Q) : gTup K n f (.ref p) σ H Q := ⟨p, xs, rfl, h, l, q⟩
theorem yes {Q : Bool → Hp → Prop} (h : Q true H) : tYes σ H Q := h
theorem gcons {f : TGs} {Q : L2.St → Hp → Prop} (q : g v σ H fun σ' H' => f vs σ' H' Q) : gCons g f (v :: vs) σ H Q := ⟨v, vs, rfl, q⟩
theorem gnil {Q : L2.St → Hp → Prop} (q : Q σ H) : gNil [] σ H Q := ⟨rfl, q⟩
theorem sub {to ti : TE} {f : TSet} {Q : L2.St → Hp → Prop} (h : to σ H fun o H1 => ti σ H1 fun i H2 => f o i v H2 fun H3 => Q σ H3) : gSub to ti f v σ H Q := h
theorem setL {l : Addr} {xs : List V} {j : Nat} {i : Int} {Q : Hp → Prop} (h : H l = some (.lst xs)) (e : ixN xs.length i = some j) (q : Q (upd H l (.lst (xs.set j v)))) : rSetL (.ref l) (.int i) v H Q := ⟨l, xs, i, j, rfl, rfl, h, e, q⟩
theorem isN (h : ta σ H fun x H1 => Q (.bl (decide (x = .non))) H1) : tIsN ta σ H Q := h
theorem rf {α : Type} {a : α} {A : Prop} (h : A) : a = a ∧ A := ⟨rfl, h⟩
theorem sz {n : Nat} (h : n ≤ 100000) : n ≤ sizeLine := Nat.le_trans h (by decide)
theorem szl {n : Nat} (h : n < 100000) : n < sizeLine := Nat.lt_of_lt_of_le h (by decide)
theorem chain {r r' : R2} (h : ta σ H fun x H1 => tb σ H1 fun y H2 => r x y H2 fun z H3 => ∃ k, z = .bl k ∧ if k = true then tc σ H3 fun w H4 => r' y w H4 Q else Q (.bl false) H3) : tChain r r' ta tb tc σ H Q := h

theorem v0 (h : Q v H) : tVar 0 (some v :: r) H Q := ⟨v, rfl, h⟩
theorem n0 {Q : L2.St → Hp → Prop} (h : Q (some v :: r) H) : gName 0 v (a :: r) H Q := h
theorem g0 {ti : TIp} (h : te (some x :: r) H fun y H1 => ti x y H1 fun z H2 => D.nx (some z :: r) H2) : tAug 0 te ti D (some x :: r) H := ⟨x, rfl, h⟩
theorem v1 {a0 : Option V} (h : Q v H) : tVar 1 (a0 :: some v :: r) H Q := ⟨v, rfl, h⟩
theorem n1 {a0 : Option V} {Q : L2.St → Hp → Prop} (h : Q (a0 :: some v :: r) H) : gName 1 v (a0 :: a :: r) H Q := h
theorem g1 {a0 : Option V} {ti : TIp} (h : te (a0 :: some x :: r) H fun y H1 => ti x y H1 fun z H2 => D.nx (a0 :: some z :: r) H2) : tAug 1 te ti D (a0 :: some x :: r) H := ⟨x, rfl, h⟩
theorem v2 {a0 a1 : Option V} (h : Q v H) : tVar 2 (a0 :: a1 :: some v :: r) H Q := ⟨v, rfl, h⟩
theorem n2 {a0 a1 : Option V} {Q : L2.St → Hp → Prop} (h : Q (a0 :: a1 :: some v :: r) H) : gName 2 v (a0 :: a1 :: a :: r) H Q := h
theorem g2 {a0 a1 : Option V} {ti : TIp} (h : te (a0 :: a1 :: some x :: r) H fun y H1 => ti x y H1 fun z H2 => D.nx (a0 :: a1 :: some z :: r) H2) : tAug 2 te ti D (a0 :: a1 :: some x :: r) H := ⟨x, rfl, h⟩
theorem v3 {a0 a1 a2 : Option V} (h : Q v H) : tVar 3 (a0 :: a1 :: a2 :: some v :: r) H Q := ⟨v, rfl, h⟩
theorem n3 {a0 a1 a2 : Option V} {Q : L2.St → Hp → Prop} (h : Q (a0 :: a1 :: a2 :: some v :: r) H) : gName 3 v (a0 :: a1 :: a2 :: a :: r) H Q := h
theorem g3 {a0 a1 a2 : Option V} {ti : TIp} (h : te (a0 :: a1 :: a2 :: some x :: r) H fun y H1 => ti x y H1 fun z H2 => D.nx (a0 :: a1 :: a2 :: some z :: r) H2) : tAug 3 te ti D (a0 :: a1 :: a2 :: some x :: r) H := ⟨x, rfl, h⟩
theorem v4 {a0 a1 a2 a3 : Option V} (h : Q v H) : tVar 4 (a0 :: a1 :: a2 :: a3 :: some v :: r) H Q := ⟨v, rfl, h⟩
theorem n4 {a0 a1 a2 a3 : Option V} {Q : L2.St → Hp → Prop} (h : Q (a0 :: a1 :: a2 :: a3 :: some v :: r) H) : gName 4 v (a0 :: a1 :: a2 :: a3 :: a :: r) H Q := h
theorem g4 {a0 a1 a2 a3 : Option V} {ti : TIp} (h : te (a0 :: a1 :: a2 :: a3 :: some x :: r) H fun y H1 => ti x y H1 fun z H2 => D.nx (a0 :: a1 :: a2 :: a3 :: some z :: r) H2) : tAug 4 te ti D (a0 :: a1 :: a2 :: a3 :: some x :: r) H := ⟨x, rfl, h⟩
theorem v5 {a0 a1 a2 a3 a4 : Option V} (h : Q v H) : tVar 5 (a0 :: a1 :: a2 :: a3 :: a4 :: some v :: r) H Q := ⟨v, rfl, h⟩
theorem n5 {a0 a1 a2 a3 a4 : Option V} {Q : L2.St → Hp → Prop} (h : Q (a0 :: a1 :: a2 :: a3 :: a4 :: some v :: r) H) : gName 5 v (a0 :: a1 :: a2 :: a3 :: a4 :: a :: r) H Q := h
theorem g5 {a0 a1 a2 a3 a4 : Option V} {ti : TIp} (h : te (a0 :: a1 :: a2 :: a3 :: a4 :: some x :: r) H fun y H1 => ti x y H1 fun z H2 => D.nx (a0 :: a1 :: a2 :: a3 :: a4 :: some z :: r) H2) : tAug 5 te ti D (a0 :: a1 :: a2 :: a3 :: a4 :: some x :: r) H := ⟨x, rfl, h⟩
theorem v6 {a0 a1 a2 a3 a4 a5 : Option V} (h : Q v H) : tVar 6 (a0 :: a1 :: a2 :: a3 :: a4 :: a5 :: some v :: r) H Q := ⟨v, rfl, h⟩
theorem n6 {a0 a1 a2 a3 a4 a5 : Option V} {Q : L2.St → Hp → Prop} (h : Q (a0 :: a1 :: a2 :: a3 :: a4 :: a5 :: some v :: r) H) : gName 6 v (a0 :: a1 :: a2 :: a3 :: a4 :: a5 :: a :: r) H Q := h
theorem g6 {a0 a1 a2 a3 a4 a5 : Option V} {ti : TIp} (h : te (a0 :: a1 :: a2 :: a3 :: a4 :: a5 :: some x :: r) H fun y H1 => ti x y H1 fun z H2 => D.nx (a0 :: a1 :: a2 :: a3 :: a4 :: a5 :: some z :: r) H2) : tAug 6 te ti D (a0 :: a1 :: a2 :: a3 :: a4 :: a5 :: some x :: r) H := ⟨x, rfl, h⟩
theorem v7 {a0 a1 a2 a3 a4 a5 a6 : Option V} (h : Q v H) : tVar 7 (a0 :: a1 :: a2 :: a3 :: a4 :: a5 :: a6 :: some v :: r) H Q := ⟨v, rfl, h⟩
theorem n7 {a0 a1 a2 a3 a4 a5 a6 : Option V} {Q : L2.St → Hp → Prop} (h : Q (a0 :: a1 :: a2 :: a3 :: a4 :: a5 :: a6 :: some v :: r) H) : gName 7 v (a0 :: a1 :: a2 :: a3 :: a4 :: a5 :: a6 :: a :: r) H Q := h
theorem g7 {a0 a1 a2 a3 a4 a5 a6 : Option V} {ti : TIp} (h : te (a0 :: a1 :: a2 :: a3 :: a4 :: a5 :: a6 :: some x :: r) H fun y H1 => ti x y H1 fun z H2 => D.nx (a0 :: a1 :: a2 :: a3 :: a4 :: a5 :: a6 :: some z :: r) H2) : tAug 7 te ti D (a0 :: a1 :: a2 :: a3 :: a4 :: a5 :: a6 :: some x :: r) H := ⟨x, rfl, h⟩
theorem v8 {a0 a1 a2 a3 a4 a5 a6 a7 : Option V} (h : Q v H) : tVar 8 (a0 :: a1 :: a2 :: a3 :: a4 :: a5 :: a6 :: a7 :: some v :: r) H Q := ⟨v, rfl, h⟩
theorem n8 {a0 a1 a2 a3 a4 a5 a6 a7 : Option V} {Q : L2.St → Hp → Prop} (h : Q (a0 :: a1 :: a2 :: a3 :: a4 :: a5 :: a6 :: a7 :: some v :: r) H) : gName 8 v (a0 :: a1 :: a2 :: a3 :: a4 :: a5 :: a6 :: a7 :: a :: r) H Q := h
theorem g8 {a0 a1 a2 a3 a4 a5 a6 a7 : Option V} {ti : TIp} (h : te (a0 :: a1 :: a2 :: a3 :: a4 :: a5 :: a6 :: a7 :: some x :: r) H fun y H1 => ti x y H1 fun z H2 => D.nx (a0 :: a1 :: a2 :: a3 :: a4 :: a5 :: a6 :: a7 :: some z :: r) H2) : tAug 8 te ti D (a0 :: a1 :: a2 :: a3 :: a4 :: a5 :: a6 :: a7 :: some x :: r) H := ⟨x, rfl, h⟩
theorem v9 {a0 a1 a2 a3 a4 a5 a6 a7 a8 : Option V} (h : Q v H) : tVar 9 (a0 :: a1 :: a2 :: a3 :: a4 :: a5 :: a6 :: a7 :: a8 :: some v :: r) H Q := ⟨v, rfl, h⟩
theorem n9 {a0 a1 a2 a3 a4 a5 a6 a7 a8 : Option V} {Q : L2.St → Hp → Prop} (h : Q (a0 :: a1 :: a2 :: a3 :: a4 :: a5 :: a6 :: a7 :: a8 :: some v :: r) H) : gName 9 v (a0 :: a1 :: a2 :: a3 :: a4 :: a5 :: a6 :: a7 :: a8 :: a :: r) H Q := h
theorem g9 {a0 a1 a2 a3 a4 a5 a6 a7 a8 : Option V} {ti : TIp} (h : te (a0 :: a1 :: a2 :: a3 :: a4 :: a5 :: a6 :: a7 :: a8 :: some x :: r) H fun y H1 => ti x y H1 fun z H2 => D.nx (a0 :: a1 :: a2 :: a3 :: a4 :: a5 :: a6 :: a7 :: a8 :: some z :: r) H2) : tAug 9 te ti D (a0 :: a1 :: a2 :: a3 :: a4 :: a5 :: a6 :: a7 :: a8 :: some x :: r) H := ⟨x, rfl, h⟩
theorem v10 {a0 a1 a2 a3 a4 a5 a6 a7 a8 a9 : Option V} (h : Q v H) : tVar 10 (a0 :: a1 :: a2 :: a3 :: a4 :: a5 :: a6 :: a7 :: a8 :: a9 :: some v :: r) H Q := ⟨v, rfl, h⟩
theorem n10 {a0 a1 a2 a3 a4 a5 a6 a7 a8 a9 : Option V} {Q : L2.St → Hp → Prop} (h : Q (a0 :: a1 :: a2 :: a3 :: a4 :: a5 :: a6 :: a7 :: a8 :: a9 :: some v :: r) H) : gName 10 v (a0 :: a1 :: a2 :: a3 :: a4 :: a5 :: a6 :: a7 :: a8 :: a9 :: a :: r) H Q := h
theorem g10 {a0 a1 a2 a3 a4 a5 a6 a7 a8 a9 : Option V} {ti : TIp} (h : te (a0 :: a1 :: a2 :: a3 :: a4 :: a5 :: a6 :: a7 :: a8 :: a9 :: some x :: r) H fun y H1 => ti x y H1 fun z H2 => D.nx (a0 :: a1 :: a2 :: a3 :: a4 :: a5 :: a6 :: a7 :: a8 :: a9 :: some z :: r) H2) : tAug 10 te ti D (a0 :: a1 :: a2 :: a3 :: a4 :: a5 :: a6 :: a7 :: a8 :: a9 :: some x :: r) H := ⟨x, rfl, h⟩
theorem v11 {a0 a1 a2 a3 a4 a5 a6 a7 a8 a9 a10 : Option V} (h : Q v H) : tVar 11 (a0 :: a1 :: a2 :: a3 :: a4 :: a5 :: a6 :: a7 :: a8 :: a9 :: a10 :: some v :: r) H Q := ⟨v, rfl, h⟩
theorem n11 {a0 a1 a2 a3 a4 a5 a6 a7 a8 a9 a10 : Option V} {Q : L2.St → Hp → Prop} (h : Q (a0 :: a1 :: a2 :: a3 :: a4 :: a5 :: a6 :: a7 :: a8 :: a9 :: a10 :: some v :: r) H) : gName 11 v (a0 :: a1 :: a2 :: a3 :: a4 :: a5 :: a6 :: a7 :: a8 :: a9 :: a10 :: a :: r) H Q := h
theorem g11 {a0 a1 a2 a3 a4 a5 a6 a7 a8 a9 a10 : Option V} {ti : TIp} (h : te (a0 :: a1 :: a2 :: a3 :: a4 :: a5 :: a6 :: a7 :: a8 :: a9 :: a10 :: some x :: r) H fun y H1 => ti x y H1 fun z H2 => D.nx (a0 :: a1 :: a2 :: a3 :: a4 :: a5 :: a6 :: a7 :: a8 :: a9 :: a10 :: some z :: r) H2) : tAug 11 te ti D (a0 :: a1 :: a2 :: a3 :: a4 :: a5 :: a6 :: a7 :: a8 :: a9 :: a10 :: some x :: r) H := ⟨x, rfl, h⟩
theorem v12 {a0 a1 a2 a3 a4 a5 a6 a7 a8 a9 a10 a11 : Option V} (h : Q v H) : tVar 12 (a0 :: a1 :: a2 :: a3 :: a4 :: a5 :: a6 :: a7 :: a8 :: a9 :: a10 :: a11 :: some v :: r) H Q := ⟨v, rfl, h⟩
theorem n12 {a0 a1 a2 a3 a4 a5 a6 a7 a8 a9 a10 a11 : Option V} {Q : L2.St → Hp → Prop} (h : Q (a0 :: a1 :: a2 :: a3 :: a4 :: a5 :: a6 :: a7 :: a8 :: a9 :: a10 :: a11 :: some v :: r) H) : gName 12 v (a0 :: a1 :: a2 :: a3 :: a4 :: a5 :: a6 :: a7 :: a8 :: a9 :: a10 :: a11 :: a :: r) H Q := h
theorem g12 {a0 a1 a2 a3 a4 a5 a6 a7 a8 a9 a10 a11 : Option V} {ti : TIp} (h : te (a0 :: a1 :: a2 :: a3 :: a4 :: a5 :: a6 :: a7 :: a8 :: a9 :: a10 :: a11 :: some x :: r) H fun y H1 => ti x y H1 fun z H2 => D.nx (a0 :: a1 :: a2 :: a3 :: a4 :: a5 :: a6 :: a7 :: a8 :: a9 :: a10 :: a11 :: some z :: r) H2) : tAug 12 te ti D (a0 :: a1 :: a2 :: a3 :: a4 :: a5 :: a6 :: a7 :: a8 :: a9 :: a10 :: a11 :: some x :: r) H := ⟨x, rfl, h⟩
theorem v13 {a0 a1 a2 a3 a4 a5 a6 a7 a8 a9 a10 a11 a12 : Option V} (h : Q v H) : tVar 13 (a0 :: a1 :: a2 :: a3 :: a4 :: a5 :: a6 :: a7 :: a8 :: a9 :: a10 :: a11 :: a12 :: some v :: r) H Q := ⟨v, rfl, h⟩
theorem n13 {a0 a1 a2 a3 a4 a5 a6 a7 a8 a9 a10 a11 a12 : Option V} {Q : L2.St → Hp → Prop} (h : Q (a0 :: a1 :: a2 :: a3 :: a4 :: a5 :: a6 :: a7 :: a8 :: a9 :: a10 :: a11 :: a12 :: some v :: r) H) : gName 13 v (a0 :: a1 :: a2 :: a3 :: a4 :: a5 :: a6 :: a7 :: a8 :: a9 :: a10 :: a11 :: a12 :: a :: r) H Q := h
theorem g13 {a0 a1 a2 a3 a4 a5 a6 a7 a8 a9 a10 a11 a12 : Option V} {ti : TIp} (h : te (a0 :: a1 :: a2 :: a3 :: a4 :: a5 :: a6 :: a7 :: a8 :: a9 :: a10 :: a11 :: a12 :: some x :: r) H fun y H1 => ti x y H1 fun z H2 => D.nx (a0 :: a1 :: a2 :: a3 :: a4 :: a5 :: a6 :: a7 :: a8 :: a9 :: a10 :: a11 :: a12 :: some z :: r) H2) : tAug 13 te ti D (a0 :: a1 :: a2 :: a3 :: a4 :: a5 :: a6 :: a7 :: a8 :: a9 :: a10 :: a11 :: a12 :: some x :: r) H := ⟨x, rfl, h⟩
theorem v14 {a0 a1 a2 a3 a4 a5 a6 a7 a8 a9 a10 a11 a12 a13 : Option V} (h : Q v H) : tVar 14 (a0 :: a1 :: a2 :: a3 :: a4 :: a5 :: a6 :: a7 :: a8 :: a9 :: a10 :: a11 :: a12 :: a13 :: some v :: r) H Q := ⟨v, rfl, h⟩
theorem n14 {a0 a1 a2 a3 a4 a5 a6 a7 a8 a9 a10 a11 a12 a13 : Option V} {Q : L2.St → Hp → Prop} (h : Q (a0 :: a1 :: a2 :: a3 :: a4 :: a5 :: a6 :: a7 :: a8 :: a9 :: a10 :: a11 :: a12 :: a13 :: some v :: r) H) : gName 14 v (a0 :: a1 :: a2 :: a3 :: a4 :: a5 :: a6 :: a7 :: a8 :: a9 :: a10 :: a11 :: a12 :: a13 :: a :: r) H Q := h
theorem g14 {a0 a1 a2 a3 a4 a5 a6 a7 a8 a9 a10 a11 a12 a13 : Option V} {ti : TIp} (h : te (a0 :: a1 :: a2 :: a3 :: a4 :: a5 :: a6 :: a7 :: a8 :: a9 :: a10 :: a11 :: a12 :: a13 :: some x :: r) H fun y H1 => ti x y H1 fun z H2 => D.nx (a0 :: a1 :: a2 :: a3 :: a4 :: a5 :: a6 :: a7 :: a8 :: a9 :: a10 :: a11 :: a12 :: a13 :: some z :: r) H2) : tAug 14 te ti D (a0 :: a1 :: a2 :: a3 :: a4 :: a5 :: a6 :: a7 :: a8 :: a9 :: a10 :: a11 :: a12 :: a13 :: some x :: r) H := ⟨x, rfl, h⟩
theorem v15 {a0 a1 a2 a3 a4 a5 a6 a7 a8 a9 a10 a11 a12 a13 a14 : Option V} (h : Q v H) : tVar 15 (a0 :: a1 :: a2 :: a3 :: a4 :: a5 :: a6 :: a7 :: a8 :: a9 :: a10 :: a11 :: a12 :: a13 :: a14 :: some v :: r) H Q := ⟨v, rfl, h⟩
theorem n15 {a0 a1 a2 a3 a4 a5 a6 a7 a8 a9 a10 a11 a12 a13 a14 : Option V} {Q : L2.St → Hp → Prop} (h : Q (a0 :: a1 :: a2 :: a3 :: a4 :: a5 :: a6 :: a7 :: a8 :: a9 :: a10 :: a11 :: a12 :: a13 :: a14 :: some v :: r) H) : gName 15 v (a0 :: a1 :: a2 :: a3 :: a4 :: a5 :: a6 :: a7 :: a8 :: a9 :: a10 :: a11 :: a12 :: a13 :: a14 :: a :: r) H Q := h
theorem g15 {a0 a1 a2 a3 a4 a5 a6 a7 a8 a9 a10 a11 a12 a13 a14 : Option V} {ti : TIp} (h : te (a0 :: a1 :: a2 :: a3 :: a4 :: a5 :: a6 :: a7 :: a8 :: a9 :: a10 :: a11 :: a12 :: a13 :: a14 :: some x :: r) H fun y H1 => ti x y H1 fun z H2 => D.nx (a0 :: a1 :: a2 :: a3 :: a4 :: a5 :: a6 :: a7 :: a8 :: a9 :: a10 :: a11 :: a12 :: a13 :: a14 :: some z :: r) H2) : tAug 15 te ti D (a0 :: a1 :: a2 :: a3 :: a4 :: a5 :: a6 :: a7 :: a8 :: a9 :: a10 :: a11 :: a12 :: a13 :: a14 :: some x :: r) H := ⟨x, rfl, h⟩
theorem room65 {k : Nat} {A : Around} (r : Room k A) : A.units + 65 < cLine := by
  have := r.un
  omega
/-! ### iterators -/
def lcRest (g : TG) (tt : TT) (te : TE) (vs : List Nat) (σ : L2.St) (Q : VK) (J : It) (H1 : Hp) : Prop := ∀ D, H1 D = none → ∃ W : Nat → Nat → Hp → Prop, (∃ m, W 0 m (upd H1 D (.lst []))) ∧ ∀ i m H, W i m H →
  (J.stop i H ∧ Q (.ref D) H) ∨ (J.go i H ∧ ∃ Nx : Hp → Prop, (∀ H', Nx H' → ∃ m', m' < m ∧ W (i + 1) m' H') ∧ ∀ x H', J.yld i H x H' → g x (wipe σ vs) H' fun σ2 H2 => wipe σ2 vs = wipe σ vs ∧ tt σ2 H2 fun b H3 =>
    if b = true then te σ2 H3 fun y H4 => ∃ acc, H4 D = some (.lst acc) ∧ acc.length < sizeLine ∧ Nx (upd H4 D (.lst (acc ++ [y]))) else Nx H3)
theorem lc {wi : TI} {tt : TT} {ws : List Nat} (h : wi σ H (lcRest g tt te ws σ Q)) : tLc wi g tt te ws σ H Q := h
def forRest (g : TG) (tb : TS) (D : Ends) (σ0 : L2.St) (J : It) (H1 : Hp) : Prop := ∃ W : Nat → Nat → L2.St → Hp → Prop, (∃ m, W 0 m σ0 H1) ∧ ∀ i m σ H, W i m σ H →
  (J.stop i H ∧ D.nx σ H) ∨ (J.go i H ∧ ∃ N : L2.St → Hp → Prop, (∀ σ' H', N σ' H' → ∃ m', m' < m ∧ W (i + 1) m' σ' H') ∧ ∀ x H', J.yld i H x H' → g x σ H' fun σ2 H2 => tb { D with nx := N, ct := N, bk := D.nx } σ2 H2)
theorem for_ {wi : TI} {tb : TS} (h : wi σ H (forRest g tb D σ)) : tFor wi g tb D σ H := h
variable {R : It → Hp → Prop}
theorem ilist (h : te σ H fun x H1 => ∃ a, x = .ref a ∧ (∃ xs, SqL K H1 a xs) ∧ R (Itl K a) H1) : iList K te σ H R := h
theorem itup (h : te σ H fun x H1 => ∃ a, x = .ref a ∧ (∃ xs, SqT K H1 a xs) ∧ R (Itt K a) H1) : iTup K te σ H R := h
theorem irng1 (h : tr σ H fun vs H1 => ∃ j : Int, vs = [.int j] ∧ -(2 ^ 62) ≤ j ∧ j < 2 ^ 62 ∧ R (Itr 0 j.toNat) H1) : iRng1 tr σ H R := h
theorem irng2 (h : tr σ H fun vs H1 => ∃ i j : Int, vs = [.int i, .int j] ∧ (-(2 ^ 62) ≤ i ∧ i < 2 ^ 62 ∧ -(2 ^ 62) ≤ j ∧ j < 2 ^ 62) ∧ R (Itr i (j - i).toNat) H1) : iRng2 tr σ H R := h
theorem ienum (h : tr σ H fun vs H1 => ∃ a xs, vs = [.ref a] ∧ SqL K H1 a xs ∧ R (Ite K a) H1) : iEnum K tr σ H R := h
theorem istr (h : te σ H fun v H1 => ∃ x, v = .str x ∧ R (Its x) H1) : iStr te σ H R := h
theorem refA {a : Addr} {P : Addr → Prop} (h : P a) : ∃ b, V.ref a = .ref b ∧ P b := ⟨a, rfl, h⟩
theorem strA {a : Str} {P : Str → Prop} (h : P a) : ∃ b, V.str a = .str b ∧ P b := ⟨a, rfl, h⟩
theorem sqA {l : Addr} {xs : List V} {A : Prop} (h : H l = some (.lst xs)) (q : A) : (∃ xs, SqL K H l xs) ∧ A := ⟨⟨_, SqL.of h⟩, q⟩
theorem sqAq {l : Addr} {xs : List V} {A : Prop} (h : SqL K H l xs) (q : A) : (∃ xs, SqL K H l xs) ∧ A := ⟨⟨_, h⟩, q⟩
theorem stA {l : Addr} {xs : List V} {A : Prop} (h : H l = some (.tup xs)) (q : A) : (∃ xs, SqT K H l xs) ∧ A := ⟨⟨_, SqT.of h⟩, q⟩
theorem stAq {l : Addr} {xs : List V} {A : Prop} (h : SqT K H l xs) (q : A) : (∃ xs, SqT K H l xs) ∧ A := ⟨⟨_, h⟩, q⟩
theorem enA {l : Addr} {xs : List V} {P : Addr → Prop} (h : H l = some (.lst xs)) (q : P l) : ∃ a ys, [V.ref l] = [.ref a] ∧ SqL K H a ys ∧ P a := ⟨l, xs, rfl, SqL.of h, q⟩
theorem enAq {l : Addr} {xs : List V} {P : Addr → Prop} (h : SqL K H l xs) (q : P l) : ∃ a ys, [V.ref l] = [.ref a] ∧ SqL K H a ys ∧ P a := ⟨l, xs, rfl, h, q⟩
theorem lenL {l : Addr} {xs : List V} {P : List V → Prop} (h : H l = some (.lst xs)) (q : P xs) : ∃ p ys, [V.ref l] = [.ref p] ∧ (SqL K H p ys ∨ SqT K H p ys) ∧ P ys := ⟨l, xs, rfl, .inl (SqL.of h), q⟩
theorem lenLq {l : Addr} {xs : List V} {P : List V → Prop} (h : SqL K H l xs) (q : P xs) : ∃ p ys, [V.ref l] = [.ref p] ∧ (SqL K H p ys ∨ SqT K H p ys) ∧ P ys := ⟨l, xs, rfl, .inl h, q⟩
theorem lenTq {l : Addr} {xs : List V} {P : List V → Prop} (h : SqT K H l xs) (q : P xs) : ∃ p ys, [V.ref l] = [.ref p] ∧ (SqL K H p ys ∨ SqT K H p ys) ∧ P ys := ⟨l, xs, rfl, .inr h, q⟩
theorem lenT {l : Addr} {xs : List V} {P : List V → Prop} (h : H l = some (.tup xs)) (q : P xs) : ∃ p ys, [V.ref l] = [.ref p] ∧ (SqL K H p ys ∨ SqT K H p ys) ∧ P ys := ⟨l, xs, rfl, .inr (SqT.of h), q⟩
/-! ### comprehensions: each element by a relation -/
def But (D : Addr) (H H' : Hp) : Prop := ∀ b o, b ≠ D → H b = some o → H' b = some o
theorem But.refl {D : Addr} : But D H H := fun _ _ _ h => h
theorem But.trans {D : Addr} {H H1 H2 : Hp} (a : But D H H1) (b : But D H1 H2) : But D H H2 := fun x o n h => b x o n (a x o n h)
theorem But.same {D : Addr} {H H1 : Hp} (a : Same H H1) : But D H H1 := fun x o _ h => a x o h
theorem But.at_ {D : Addr} {o : HO} : But D H (upd H D o) := fun x u n h => by rw [upd_ne n]; exact h
theorem But.to {D : Addr} {H H1 : Hp} (a : But D H H1) (n : H D = none) : Same H H1 := fun x o h => a x o (fun z => by rw [z, n] at h; cases h) h
theorem lc_rel {J : It} {n : Nat} {G : Hp → Prop} {Y : Nat → Hp → V → Hp → Prop} (w : Walk J n G Y) {g : TG} {te : TE} {vs : List Nat} {σ : L2.St} {H1 : Hp} {D : Addr} {Qd : Hp → Prop} (R : Nat → V → Hp → Prop)
    (nD : H1 D = none) (hn : n ≤ 100000) (mono : ∀ i v H H', R i v H → But D H H' → R i v H') (hG : ∀ H, But D H1 H → G H)
    (hs : ∀ i x H H' (Kt : VK), i < n → But D H1 H → (∃ xs, H D = some (.lst xs)) → Y i H x H' → (∀ y H4, R i y H4 → Same H H4 → Kt y H4) → g x (wipe σ vs) H' fun σ2 H2 => wipe σ2 vs = wipe σ vs ∧ te σ2 H2 Kt)
    (hd : ∀ H ys, ys.length = n → (∀ i v, ys[i]? = some v → R i v H) → Same H1 H → H D = some (.lst ys) → Qd H) :
    ∃ W : Nat → Nat → Hp → Prop, (∃ m, W 0 m (upd H1 D (.lst []))) ∧ ∀ i m H, W i m H →
      (J.stop i H ∧ Qd H) ∨ (J.go i H ∧ ∃ Nx : Hp → Prop, (∀ H', Nx H' → ∃ m', m' < m ∧ W (i + 1) m' H') ∧ ∀ x H', J.yld i H x H' → g x (wipe σ vs) H' fun σ2 H2 => wipe σ2 vs = wipe σ vs ∧ tYes σ2 H2 fun b H3 =>
        if b = true then te σ2 H3 fun y H4 => ∃ acc, H4 D = some (.lst acc) ∧ acc.length < sizeLine ∧ Nx (upd H4 D (.lst (acc ++ [y]))) else Nx H3) := by
  refine lc_it w (fun i H => ∃ ys, ys.length = i ∧ (∀ i v, ys[i]? = some v → R i v H) ∧ But D H1 H ∧ H D = some (.lst ys)) ⟨[], rfl, fun i v h => by simp at h, But.at_, upd_same⟩ (fun i H _ h => ?_) (fun i x H H' hi h y => ?_) (fun H h => ?_)
  · obtain ⟨_, _, _, b, _⟩ := h
    exact hG H b
  · obtain ⟨ys, hl, hr, b, hD⟩ := h
    refine hs i x H H' _ hi b ⟨_, hD⟩ y fun v H4 r sm => ?_
    refine ⟨ys, sm _ _ hD, szl (by omega), ys ++ [v], by simp [hl], fun j u hj => ?_, (b.trans (But.same sm)).trans But.at_, upd_same⟩
    by_cases hj2 : j < ys.length
    · rw [List.getElem?_append_left hj2] at hj
      exact mono _ _ _ _ (hr j u hj) ((But.same sm).trans But.at_)
    · have e : j = ys.length := by
        have := (List.getElem?_eq_some_iff.mp hj).1
        simp at this; omega
      subst e
      rw [List.getElem?_append_right (Nat.le_refl _)] at hj
      simp at hj
      subst hj
      rw [hl]
      exact mono _ _ _ _ r But.at_
  · obtain ⟨ys, hl, hr, b, hD⟩ := h
    exact hd H ys hl hr (b.to nD) hD
/-! ### tests, ints in lists -/
theorem ifD {p : Prop} [Decidable p] {A B : Prop} (h1 : p → A) (h2 : ¬ p → B) : if decide p = true then A else B := by
  by_cases h : p
  · rw [decide_eq_true h, if_pos rfl]; exact h1 h
  · rw [decide_eq_false h, if_neg Bool.false_ne_true]; exact h2 h
theorem ifN {p : Prop} [Decidable p] {A B : Prop} (h1 : ¬ p → A) (h2 : p → B) : if (!decide p) = true then A else B := by
  by_cases h : p
  · rw [decide_eq_true h, if_neg (by decide)]; exact h2 h
  · rw [decide_eq_false h, if_pos (by decide)]; exact h1 h
theorem ifT {A B : Prop} (h : A) : if true = true then A else B := by rw [if_pos rfl]; exact h
theorem ifF {A B : Prop} (h : B) : if false = true then A else B := by rw [if_neg Bool.false_ne_true]; exact h
theorem ifB {b : Bool} {A B : Prop} (h1 : b = true → A) (h2 : b = false → B) : if b = true then A else B := by
  cases b with
  | true => exact ifT (h1 rfl)
  | false => exact ifF (h2 rfl)
theorem ifNB {b : Bool} {A B : Prop} (h1 : b = false → A) (h2 : b = true → B) : if (!b) = true then A else B := by
  cases b with
  | true => exact ifF (h2 rfl)
  | false => exact ifT (h1 rfl)
theorem flat_ints (ns : List Int) : (ns.map V.int).all flatV = true := by
  rw [List.all_eq_true]
  intro x hx
  obtain ⟨i, _, rfl⟩ := List.mem_map.mp hx
  rfl
theorem flat_strs (ns : List Str) : (ns.map V.str).all flatV = true := by
  rw [List.all_eq_true]
  intro x hx
  obtain ⟨i, _, rfl⟩ := List.mem_map.mp hx
  rfl
theorem eqV_ints (a b : Int) : eqV (.int a) (.int b) = decide (a = b) := by
  by_cases h : a = b <;> simp [eqV, h]
theorem inV_ints (x : Int) (r : List Int) : inV (.int x) (r.map V.int) = decide (x ∈ r) := by
  unfold inV
  rw [List.any_map]
  by_cases h : x ∈ r
  · rw [decide_eq_true h, List.any_eq_true]
    exact ⟨x, h, beq_self_eq_true x⟩
  · rw [decide_eq_false h, List.any_eq_false]
    intro y hy e
    have e2 : (y == x) = true := e
    exact h (by rw [← eq_of_beq e2]; exact hy)
theorem first_at (ns : List Int) (n : Int) (h : n ∈ ns) : ∃ j : Nat, ns[j]? = some n ∧ ∀ i, i < j → ns[i]? ≠ some n := by
  induction ns with
  | nil => simp at h
  | cons a r ih =>
    by_cases e : a = n
    · exact ⟨0, by simp [e], fun i hi => absurd hi (Nat.not_lt_zero _)⟩
    · obtain ⟨j, h1, h2⟩ := ih ((List.mem_cons.mp h).resolve_left fun z => e z.symm)
      refine ⟨j + 1, by simpa using h1, fun i hi => ?_⟩
      cases i with
      | zero => simp [e]
      | succ i => simpa using h2 i (by omega)
theorem inI {p : Addr} {ns : List Int} {n : Int} (h : H p = some (.lst (ns.map V.int))) (q : Q (.bl (decide (n ∈ ns))) H) : rIn K false (.int n) (.ref p) H Q :=
  ⟨p, _, rfl, .inl (SqL.of h), rfl, flat_ints _, by rw [inV_ints]; exact q⟩
theorem ninI {p : Addr} {ns : List Int} {n : Int} (h : H p = some (.lst (ns.map V.int))) (q : Q (.bl (!decide (n ∈ ns))) H) : rIn K true (.int n) (.ref p) H Q :=
  ⟨p, _, rfl, .inl (SqL.of h), rfl, flat_ints _, by rw [inV_ints]; exact q⟩
theorem idxI {a : Addr} {ns : List Int} {n : Int} {j : Nat} (h : H a = some (.lst (ns.map V.int))) (hj : ns[j]? = some n) (hf : ∀ i, i < j → ns[i]? ≠ some n) (q : Q (.int (j : Nat)) H) : rIndex K (.ref a) [.int n] H Q :=
  ⟨a, _, _, j, .int n, rfl, rfl, SqL.of h, rfl, flat_ints _, by rw [List.getElem?_map, hj]; rfl, by rw [eqV_ints, decide_eq_true rfl], fun m z' hm hz => by
    rw [List.getElem?_map] at hz
    cases e : ns[m]? with
    | none => rw [e] at hz; cases hz
    | some x =>
      rw [e] at hz; cases hz
      rw [eqV_ints]
      exact decide_eq_false fun e2 => hf m hm (by rw [e, e2]), q⟩
theorem vals_map {n : Nat} {ns : List V} (f : Nat → Int) (ln : ns.length = n) (hn : ∀ (i : Nat) v, ns[i]? = some v → v = .int (f i)) : ns = ((List.range n).map f).map V.int := by
  refine List.ext_getElem? fun i => ?_
  rw [List.map_map, List.getElem?_map]
  by_cases hi : i < n
  · obtain ⟨v, hv⟩ : ∃ v, ns[i]? = some v := ⟨_, List.getElem?_eq_getElem (by omega)⟩
    rw [hv, List.getElem?_range hi, hn i v hv]
    rfl
  · rw [List.getElem?_eq_none (by omega), List.getElem?_eq_none (by rw [List.length_range]; omega)]
    rfl
theorem at_int {ns : List Int} {i : Int} {j : Nat} {n : Int} (e : i = (j : Int)) (h : ns[j]? = some n) : atI (ns.map V.int) i = some (.int n) := by
  subst e
  exact atI_nat (by rw [List.getElem?_map, h]; rfl)
theorem at_val {xs : List V} {i : Int} {j : Nat} (e : i = (j : Int)) (h : xs[j]? = some v) : atI xs i = some v := by
  subst e
  exact atI_nat h
theorem zr {i : Nat} {H H' : Hp} (y : YFn (fun (i : Nat) => V.int ((0 : Int) + (i : Int))) i H x H') : x = .int (i : Int) ∧ H' = H := by
  obtain ⟨a, b⟩ := y
  exact ⟨by rw [b]; show V.int (0 + (i : Int)) = _; rw [Int.zero_add], a⟩
/-! ### new objects, by what they leave -/
def NewT (Q : VK) (xs : List V) (H : Hp) : Prop := xs.length ≤ sizeLine ∧ ∀ p, H p = none → Q (.ref p) (upd H p (.tup xs))
def NewL (Q : VK) (xs : List V) (H : Hp) : Prop := xs.length ≤ sizeLine ∧ ∀ p, H p = none → Q (.ref p) (upd H p (.lst xs))
theorem tupN (h : tr σ H (NewT Q)) : tTup tr σ H Q := h
theorem lstN (h : tr σ H (NewL Q)) : tLst tr σ H Q := h
theorem nwT {xs : List V} (s : xs.length ≤ sizeLine) (h : ∀ p H', H p = none → Same H H' → H' p = some (.tup xs) → Q (.ref p) H') : NewT Q xs H := ⟨s, fun p np => h p _ np (same_new np) upd_same⟩
theorem nwL {xs : List V} (s : xs.length ≤ sizeLine) (h : ∀ p H', H p = none → Same H H' → H' p = some (.lst xs) → Q (.ref p) H') : NewL Q xs H := ⟨s, fun p np => h p _ np (same_new np) upd_same⟩
def ListOf (K : PySem.W.Frag) (Q : VK) (vs : List V) (H : Hp) : Prop := ∃ p ys, vs = [.ref p] ∧ (SqL K H p ys ∨ SqT K H p ys) ∧ ∀ l, H l = none → Q (.ref l) (upd H l (.lst ys))
theorem cbListOf (h : tr σ H (ListOf K Q)) : tCB (fun xs H Q => ∃ p ys, xs = [.ref p] ∧ (SqL K H p ys ∨ SqT K H p ys) ∧ ∀ l, H l = none → Q (.ref l) (upd H l (.lst ys))) tr σ H Q := h
theorem listOfq {a : Addr} {ys : List V} (s : SqL K H a ys) (h : ∀ p H', H p = none → Same H H' → H' p = some (.lst ys) → Q (.ref p) H') : ListOf K Q [.ref a] H := ⟨a, ys, rfl, .inl s, fun p np => h p _ np (same_new np) upd_same⟩
theorem listOf {a : Addr} {ys : List V} (s : H a = some (.lst ys)) (h : ∀ p H', H p = none → Same H H' → H' p = some (.lst ys) → Q (.ref p) H') : ListOf K Q [.ref a] H := listOfq (SqL.of s) h
def SlL (K : PySem.W.Frag) (x : V) (lo hi : Option Int) (Q : VK) (H : Hp) : Prop := ∃ a xs, x = .ref a ∧ SqL K H a xs ∧ ∀ p, H p = none → Q (.ref p) (upd H p (.lst (cutV xs lo hi)))
theorem slN {tl th : TO} (h : te σ H fun x H1 => tl σ H1 fun l H2 => th σ H2 fun u H3 => SlL K x l u Q H3) : L2.tSl (rSlL K) te tl th σ H Q := h
theorem slq {a : Addr} {xs : List V} {lo hi : Option Int} (s : SqL K H a xs) (h : ∀ p H', H p = none → Same H H' → H' p = some (.lst (cutV xs lo hi)) → Q (.ref p) H') : SlL K (.ref a) lo hi Q H := ⟨a, xs, rfl, s, fun p np => h p _ np (same_new np) upd_same⟩
theorem slo {a : Addr} {xs : List V} {lo hi : Option Int} (s : H a = some (.lst xs)) (h : ∀ p H', H p = none → Same H H' → H' p = some (.lst (cutV xs lo hi)) → Q (.ref p) H') : SlL K (.ref a) lo hi Q H := slq (SqL.of s) h
def SrtI (K : PySem.W.Frag) (Q : VK) (vs : List V) (H : Hp) : Prop := rSortedI K vs H Q
theorem cbSrtI (h : tr σ H (SrtI K Q)) : tCB (rSortedI K) tr σ H Q := h
theorem srtI {a : Addr} {ns : List Int} (s : SqL K H a (ns.map V.int)) (h : ∀ (ns' : List Int) p H', ns'.Perm ns → ns'.Pairwise (· ≤ ·) → H p = none → Same H H' → H' p = some (.lst (ns'.map V.int)) → Q (.ref p) H') : SrtI K Q [.ref a] H :=
  ⟨a, ns, rfl, s, fun ns' p e1 e2 np => h ns' p _ e1 e2 np (same_new np) upd_same⟩
theorem srtIo {a : Addr} {ns : List Int} (s : H a = some (.lst (ns.map V.int))) (h : ∀ (ns' : List Int) p H', ns'.Perm ns → ns'.Pairwise (· ≤ ·) → H p = none → Same H H' → H' p = some (.lst (ns'.map V.int)) → Q (.ref p) H') : SrtI K Q [.ref a] H := srtI (SqL.of s) h
theorem eqD {d e : PyData} (h1 : Dp K H x d) (h2 : Dp K H y e) (s1 : SeqAt.shaped d = true) (s2 : SeqAt.shaped e = true) (q : Q (.bl (PyData.eqv d e)) H) : rEqD K x y H Q := ⟨d, e, h1, h2, s1, s2, q⟩
theorem neD {d e : PyData} (h1 : Dp K H x d) (h2 : Dp K H y e) (s1 : SeqAt.shaped d = true) (s2 : SeqAt.shaped e = true) (q : Q (.bl (!PyData.eqv d e)) H) : rNeD K x y H Q := ⟨d, e, h1, h2, s1, s2, q⟩
/-! ### isinstance -/
theorem isi {T U : String} {b : Bool} (t : TyX K H x (.type T)) (k : kitB T U = some b) (q : Q (.bl b) H) : rIsi K [x, .ty U] H Q := ⟨x, .ty U, _, _, b, rfl, .ty _, t, kit_ty k, q⟩
theorem isi_ii {n : Int} (q : Q (.bl true) H) : rIsi K [.int n, .ty "int"] H Q := isi (.base (.int _)) (by decide +kernel) q
theorem isi_ib {n : Int} (q : Q (.bl false) H) : rIsi K [.int n, .ty "bool"] H Q := isi (.base (.int _)) (by decide +kernel) q
theorem isi_is {n : Int} (q : Q (.bl false) H) : rIsi K [.int n, .ty "str"] H Q := isi (.base (.int _)) (by decide +kernel) q
theorem isi_il {n : Int} (q : Q (.bl false) H) : rIsi K [.int n, .ty "list"] H Q := isi (.base (.int _)) (by decide +kernel) q
theorem isi_it {n : Int} (q : Q (.bl false) H) : rIsi K [.int n, .ty "tuple"] H Q := isi (.base (.int _)) (by decide +kernel) q
theorem isi_id {n : Int} (q : Q (.bl false) H) : rIsi K [.int n, .ty "dict"] H Q := isi (.base (.int _)) (by decide +kernel) q
theorem isi_bi {n : Bool} (q : Q (.bl true) H) : rIsi K [.bl n, .ty "int"] H Q := isi (.base (.bl _)) (by decide +kernel) q
theorem isi_bb {n : Bool} (q : Q (.bl true) H) : rIsi K [.bl n, .ty "bool"] H Q := isi (.base (.bl _)) (by decide +kernel) q
theorem isi_bs {n : Bool} (q : Q (.bl false) H) : rIsi K [.bl n, .ty "str"] H Q := isi (.base (.bl _)) (by decide +kernel) q
theorem isi_bl {n : Bool} (q : Q (.bl false) H) : rIsi K [.bl n, .ty "list"] H Q := isi (.base (.bl _)) (by decide +kernel) q
theorem isi_bt {n : Bool} (q : Q (.bl false) H) : rIsi K [.bl n, .ty "tuple"] H Q := isi (.base (.bl _)) (by decide +kernel) q
theorem isi_bd {n : Bool} (q : Q (.bl false) H) : rIsi K [.bl n, .ty "dict"] H Q := isi (.base (.bl _)) (by decide +kernel) q
theorem isi_si {n : Str} (q : Q (.bl false) H) : rIsi K [.str n, .ty "int"] H Q := isi (.base (.str _)) (by decide +kernel) q
theorem isi_sb {n : Str} (q : Q (.bl false) H) : rIsi K [.str n, .ty "bool"] H Q := isi (.base (.str _)) (by decide +kernel) q
theorem isi_ss {n : Str} (q : Q (.bl true) H) : rIsi K [.str n, .ty "str"] H Q := isi (.base (.str _)) (by decide +kernel) q
theorem isi_sl {n : Str} (q : Q (.bl false) H) : rIsi K [.str n, .ty "list"] H Q := isi (.base (.str _)) (by decide +kernel) q
theorem isi_st {n : Str} (q : Q (.bl false) H) : rIsi K [.str n, .ty "tuple"] H Q := isi (.base (.str _)) (by decide +kernel) q
theorem isi_sd {n : Str} (q : Q (.bl false) H) : rIsi K [.str n, .ty "dict"] H Q := isi (.base (.str _)) (by decide +kernel) q
theorem isi_li {n : Addr} {xs : List V} (h : H n = some (.lst xs)) (q : Q (.bl false) H) : rIsi K [.ref n, .ty "int"] H Q := isi (.base (.lst h)) (by decide +kernel) q
theorem isi_lb {n : Addr} {xs : List V} (h : H n = some (.lst xs)) (q : Q (.bl false) H) : rIsi K [.ref n, .ty "bool"] H Q := isi (.base (.lst h)) (by decide +kernel) q
theorem isi_ls {n : Addr} {xs : List V} (h : H n = some (.lst xs)) (q : Q (.bl false) H) : rIsi K [.ref n, .ty "str"] H Q := isi (.base (.lst h)) (by decide +kernel) q
theorem isi_ll {n : Addr} {xs : List V} (h : H n = some (.lst xs)) (q : Q (.bl true) H) : rIsi K [.ref n, .ty "list"] H Q := isi (.base (.lst h)) (by decide +kernel) q
theorem isi_lt {n : Addr} {xs : List V} (h : H n = some (.lst xs)) (q : Q (.bl false) H) : rIsi K [.ref n, .ty "tuple"] H Q := isi (.base (.lst h)) (by decide +kernel) q
theorem isi_ld {n : Addr} {xs : List V} (h : H n = some (.lst xs)) (q : Q (.bl false) H) : rIsi K [.ref n, .ty "dict"] H Q := isi (.base (.lst h)) (by decide +kernel) q
theorem isi_ti {n : Addr} {xs : List V} (h : H n = some (.tup xs)) (q : Q (.bl false) H) : rIsi K [.ref n, .ty "int"] H Q := isi (.base (.tup h)) (by decide +kernel) q
theorem isi_tb {n : Addr} {xs : List V} (h : H n = some (.tup xs)) (q : Q (.bl false) H) : rIsi K [.ref n, .ty "bool"] H Q := isi (.base (.tup h)) (by decide +kernel) q
theorem isi_ts {n : Addr} {xs : List V} (h : H n = some (.tup xs)) (q : Q (.bl false) H) : rIsi K [.ref n, .ty "str"] H Q := isi (.base (.tup h)) (by decide +kernel) q
theorem isi_tl {n : Addr} {xs : List V} (h : H n = some (.tup xs)) (q : Q (.bl false) H) : rIsi K [.ref n, .ty "list"] H Q := isi (.base (.tup h)) (by decide +kernel) q
theorem isi_tt {n : Addr} {xs : List V} (h : H n = some (.tup xs)) (q : Q (.bl true) H) : rIsi K [.ref n, .ty "tuple"] H Q := isi (.base (.tup h)) (by decide +kernel) q
theorem isi_td {n : Addr} {xs : List V} (h : H n = some (.tup xs)) (q : Q (.bl false) H) : rIsi K [.ref n, .ty "dict"] H Q := isi (.base (.tup h)) (by decide +kernel) q
theorem isi_ni  (q : Q (.bl false) H) : rIsi K [.non, .ty "int"] H Q := isi (.base .non) (by decide +kernel) q
theorem isi_nb  (q : Q (.bl false) H) : rIsi K [.non, .ty "bool"] H Q := isi (.base .non) (by decide +kernel) q
theorem isi_ns  (q : Q (.bl false) H) : rIsi K [.non, .ty "str"] H Q := isi (.base .non) (by decide +kernel) q
theorem isi_nl  (q : Q (.bl false) H) : rIsi K [.non, .ty "list"] H Q := isi (.base .non) (by decide +kernel) q
theorem isi_nt  (q : Q (.bl false) H) : rIsi K [.non, .ty "tuple"] H Q := isi (.base .non) (by decide +kernel) q
theorem isi_nd  (q : Q (.bl false) H) : rIsi K [.non, .ty "dict"] H Q := isi (.base .non) (by decide +kernel) q
/-! ### slices of lists -/
theorem cut_to (xs : List V) (n : Nat) : cutV xs none (some (n : Int)) = xs.take n := by
  unfold cutV
  rw [HT.sIx_nat, HT.sIx_none, List.drop_zero, Nat.sub_zero]
  rcases Nat.le_total n xs.length with h | h
  · rw [Nat.min_eq_left h]
  · rw [Nat.min_eq_right h, List.take_of_length_le (Nat.le_refl _), List.take_of_length_le h]
theorem cut_from (xs : List V) (n : Nat) : cutV xs (some (n : Int)) none = xs.drop n := by
  unfold cutV
  rw [HT.sIx_nat, HT.sIx_none]
  rcases Nat.le_total n xs.length with h | h
  · rw [Nat.min_eq_left h, List.take_of_length_le (by rw [List.length_drop]; omega)]
  · rw [Nat.min_eq_right h, List.drop_of_length_le h, List.drop_of_length_le (Nat.le_refl _), List.take_nil]
theorem eqv_self (d : PyData) (h : d.canLay0 = true) : PyData.eqv d d = true := PySem.SeqAt.eqv_refl d h
/-! ### ints of a list, filtered -/
theorem lc_fl {a : Addr} {ns : List Int} {g : TG} {tt : TT} {te : TE} {vs : List Nat} {σ : L2.St} {H1 : Hp} {C : Addr} {Qd : Hp → Prop} (p : Int → Bool) (hS : SqL K H1 a (ns.map V.int)) (nD : H1 C = none) (hn : ns.length ≤ 90000)
    (hs : ∀ (i : Nat) H (n : Int) (Kt : VK) (Kn : Hp → Prop), ns[i]? = some n → But C H1 H → (p n = true → Kt (.int n) H) → (p n = false → Kn H) → g (.int n) (wipe σ vs) H fun σ2 H2 => wipe σ2 vs = wipe σ vs ∧ tt σ2 H2 fun b H3 => if b = true then te σ2 H3 Kt else Kn H3)
    (hd : ∀ H, Same H1 H → H C = some (.lst ((ns.filter p).map V.int)) → Qd H) :
    ∃ W : Nat → Nat → Hp → Prop, (∃ m, W 0 m (upd H1 C (.lst []))) ∧ ∀ i m H, W i m H →
      ((Itl K a).stop i H ∧ Qd H) ∨ ((Itl K a).go i H ∧ ∃ Nx : Hp → Prop, (∀ H', Nx H' → ∃ m', m' < m ∧ W (i + 1) m' H') ∧ ∀ x H', (Itl K a).yld i H x H' → g x (wipe σ vs) H' fun σ2 H2 => wipe σ2 vs = wipe σ vs ∧ tt σ2 H2 fun b H3 =>
        if b = true then te σ2 H3 fun y H4 => ∃ acc, H4 C = some (.lst acc) ∧ acc.length < sizeLine ∧ Nx (upd H4 C (.lst (acc ++ [y]))) else Nx H3) := by
  refine lc_it (walk_list (xs := ns.map V.int)) (fun i H => But C H1 H ∧ H C = some (.lst (((ns.take i).filter p).map V.int))) ⟨But.at_, by simp [upd_same]⟩ (fun i H _ h => (h.1.to nD).seq hS) (fun i x H H' hi ⟨b, hD⟩ y => ?_) (fun H ⟨b, hD⟩ => ?_)
  · obtain ⟨rfl, hx⟩ := y
    rw [List.getElem?_map] at hx
    obtain ⟨n, hn2, rfl⟩ : ∃ n, ns[i]? = some n ∧ V.int n = x := by
      cases e : ns[i]? with
      | none => rw [e] at hx; cases hx
      | some n => rw [e] at hx; exact ⟨n, rfl, Option.some.inj hx⟩
    have tk : (ns.take (i + 1)).filter p = (ns.take i).filter p ++ [n].filter p := by
      rw [List.take_add_one, hn2, List.filter_append]; rfl
    refine hs i _ n _ _ hn2 b (fun hp => ?_) (fun hp => ?_)
    · refine ⟨_, hD, szl ?_, b.trans But.at_, ?_⟩
      · rw [List.length_map]
        have := List.length_filter_le p (ns.take i)
        rw [List.length_take] at this
        omega
      · rw [upd_same, tk, List.filter_cons_of_pos hp]
        simp
    · refine ⟨b, ?_⟩
      rw [tk, List.filter_cons_of_neg (by simp [hp])]
      simpa using hD
  · rw [List.length_map, List.take_of_length_le (Nat.le_refl _)] at hD
    exact hd H (b.to nD) hD
theorem intI {i : Int} {A : Int → Prop} {B : Prop} (h : A i) : (∃ j, [V.int i] = [.int j] ∧ A j) ∨ B := .inl ⟨i, rfl, h⟩
theorem pos_ne {i : Int} (h : 0 < i) : i ≠ 0 := by omega
theorem ifnT {A B : Prop} (h : B) : if (!true) = true then A else B := by rw [if_neg (by decide)]; exact h
theorem ifnF {A B : Prop} (h : A) : if (!false) = true then A else B := by rw [if_pos (by decide)]; exact h
theorem cbListOfR {tr : TA} (h : tr σ H (ListOf K Q)) : tCB (rListOf K) tr σ H Q := h
def CatL (Q : VK) (x y : V) (H : Hp) : Prop := ∃ l b xs zs, x = .ref l ∧ y = .ref b ∧ H l = some (.lst xs) ∧ H b = some (.lst zs) ∧ xs.length + zs.length ≤ sizeLine ∧ ∀ p, H p = none → Q (.ref p) (upd H p (.lst (xs ++ zs)))
theorem catI (h : CatL Q x y H) : rCat x y H Q := h
theorem cat {a b : Addr} {xs zs : List V} (h1 : H a = some (.lst xs)) (h2 : H b = some (.lst zs)) (s : xs.length + zs.length ≤ 100000) (h : ∀ p H', H p = none → Same H H' → H' p = some (.lst (xs ++ zs)) → Q (.ref p) H') : CatL Q (.ref a) (.ref b) H := ⟨a, b, xs, zs, rfl, rfl, h1, h2, sz s, fun p np => h p _ np (same_new np) upd_same⟩
theorem v16 {a0 a1 a2 a3 a4 a5 a6 a7 a8 a9 a10 a11 a12 a13 a14 a15 : Option V} (h : Q v H) : tVar 16 (a0 :: a1 :: a2 :: a3 :: a4 :: a5 :: a6 :: a7 :: a8 :: a9 :: a10 :: a11 :: a12 :: a13 :: a14 :: a15 :: some v :: r) H Q := ⟨v, rfl, h⟩
theorem n16 {a0 a1 a2 a3 a4 a5 a6 a7 a8 a9 a10 a11 a12 a13 a14 a15 : Option V} {Q : L2.St → Hp → Prop} (h : Q (a0 :: a1 :: a2 :: a3 :: a4 :: a5 :: a6 :: a7 :: a8 :: a9 :: a10 :: a11 :: a12 :: a13 :: a14 :: a15 :: some v :: r) H) : gName 16 v (a0 :: a1 :: a2 :: a3 :: a4 :: a5 :: a6 :: a7 :: a8 :: a9 :: a10 :: a11 :: a12 :: a13 :: a14 :: a15 :: a :: r) H Q := h
theorem g16 {a0 a1 a2 a3 a4 a5 a6 a7 a8 a9 a10 a11 a12 a13 a14 a15 : Option V} {ti : TIp} (h : te (a0 :: a1 :: a2 :: a3 :: a4 :: a5 :: a6 :: a7 :: a8 :: a9 :: a10 :: a11 :: a12 :: a13 :: a14 :: a15 :: some x :: r) H fun y H1 => ti x y H1 fun z H2 => D.nx (a0 :: a1 :: a2 :: a3 :: a4 :: a5 :: a6 :: a7 :: a8 :: a9 :: a10 :: a11 :: a12 :: a13 :: a14 :: a15 :: some z :: r) H2) : tAug 16 te ti D (a0 :: a1 :: a2 :: a3 :: a4 :: a5 :: a6 :: a7 :: a8 :: a9 :: a10 :: a11 :: a12 :: a13 :: a14 :: a15 :: some x :: r) H := ⟨x, rfl, h⟩
theorem v17 {a0 a1 a2 a3 a4 a5 a6 a7 a8 a9 a10 a11 a12 a13 a14 a15 a16 : Option V} (h : Q v H) : tVar 17 (a0 :: a1 :: a2 :: a3 :: a4 :: a5 :: a6 :: a7 :: a8 :: a9 :: a10 :: a11 :: a12 :: a13 :: a14 :: a15 :: a16 :: some v :: r) H Q := ⟨v, rfl, h⟩
theorem n17 {a0 a1 a2 a3 a4 a5 a6 a7 a8 a9 a10 a11 a12 a13 a14 a15 a16 : Option V} {Q : L2.St → Hp → Prop} (h : Q (a0 :: a1 :: a2 :: a3 :: a4 :: a5 :: a6 :: a7 :: a8 :: a9 :: a10 :: a11 :: a12 :: a13 :: a14 :: a15 :: a16 :: some v :: r) H) : gName 17 v (a0 :: a1 :: a2 :: a3 :: a4 :: a5 :: a6 :: a7 :: a8 :: a9 :: a10 :: a11 :: a12 :: a13 :: a14 :: a15 :: a16 :: a :: r) H Q := h
theorem g17 {a0 a1 a2 a3 a4 a5 a6 a7 a8 a9 a10 a11 a12 a13 a14 a15 a16 : Option V} {ti : TIp} (h : te (a0 :: a1 :: a2 :: a3 :: a4 :: a5 :: a6 :: a7 :: a8 :: a9 :: a10 :: a11 :: a12 :: a13 :: a14 :: a15 :: a16 :: some x :: r) H fun y H1 => ti x y H1 fun z H2 => D.nx (a0 :: a1 :: a2 :: a3 :: a4 :: a5 :: a6 :: a7 :: a8 :: a9 :: a10 :: a11 :: a12 :: a13 :: a14 :: a15 :: a16 :: some z :: r) H2) : tAug 17 te ti D (a0 :: a1 :: a2 :: a3 :: a4 :: a5 :: a6 :: a7 :: a8 :: a9 :: a10 :: a11 :: a12 :: a13 :: a14 :: a15 :: a16 :: some x :: r) H := ⟨x, rfl, h⟩
theorem v18 {a0 a1 a2 a3 a4 a5 a6 a7 a8 a9 a10 a11 a12 a13 a14 a15 a16 a17 : Option V} (h : Q v H) : tVar 18 (a0 :: a1 :: a2 :: a3 :: a4 :: a5 :: a6 :: a7 :: a8 :: a9 :: a10 :: a11 :: a12 :: a13 :: a14 :: a15 :: a16 :: a17 :: some v :: r) H Q := ⟨v, rfl, h⟩
theorem n18 {a0 a1 a2 a3 a4 a5 a6 a7 a8 a9 a10 a11 a12 a13 a14 a15 a16 a17 : Option V} {Q : L2.St → Hp → Prop} (h : Q (a0 :: a1 :: a2 :: a3 :: a4 :: a5 :: a6 :: a7 :: a8 :: a9 :: a10 :: a11 :: a12 :: a13 :: a14 :: a15 :: a16 :: a17 :: some v :: r) H) : gName 18 v (a0 :: a1 :: a2 :: a3 :: a4 :: a5 :: a6 :: a7 :: a8 :: a9 :: a10 :: a11 :: a12 :: a13 :: a14 :: a15 :: a16 :: a17 :: a :: r) H Q := h
theorem g18 {a0 a1 a2 a3 a4 a5 a6 a7 a8 a9 a10 a11 a12 a13 a14 a15 a16 a17 : Option V} {ti : TIp} (h : te (a0 :: a1 :: a2 :: a3 :: a4 :: a5 :: a6 :: a7 :: a8 :: a9 :: a10 :: a11 :: a12 :: a13 :: a14 :: a15 :: a16 :: a17 :: some x :: r) H fun y H1 => ti x y H1 fun z H2 => D.nx (a0 :: a1 :: a2 :: a3 :: a4 :: a5 :: a6 :: a7 :: a8 :: a9 :: a10 :: a11 :: a12 :: a13 :: a14 :: a15 :: a16 :: a17 :: some z :: r) H2) : tAug 18 te ti D (a0 :: a1 :: a2 :: a3 :: a4 :: a5 :: a6 :: a7 :: a8 :: a9 :: a10 :: a11 :: a12 :: a13 :: a14 :: a15 :: a16 :: a17 :: some x :: r) H := ⟨x, rfl, h⟩
theorem v19 {a0 a1 a2 a3 a4 a5 a6 a7 a8 a9 a10 a11 a12 a13 a14 a15 a16 a17 a18 : Option V} (h : Q v H) : tVar 19 (a0 :: a1 :: a2 :: a3 :: a4 :: a5 :: a6 :: a7 :: a8 :: a9 :: a10 :: a11 :: a12 :: a13 :: a14 :: a15 :: a16 :: a17 :: a18 :: some v :: r) H Q := ⟨v, rfl, h⟩
theorem n19 {a0 a1 a2 a3 a4 a5 a6 a7 a8 a9 a10 a11 a12 a13 a14 a15 a16 a17 a18 : Option V} {Q : L2.St → Hp → Prop} (h : Q (a0 :: a1 :: a2 :: a3 :: a4 :: a5 :: a6 :: a7 :: a8 :: a9 :: a10 :: a11 :: a12 :: a13 :: a14 :: a15 :: a16 :: a17 :: a18 :: some v :: r) H) : gName 19 v (a0 :: a1 :: a2 :: a3 :: a4 :: a5 :: a6 :: a7 :: a8 :: a9 :: a10 :: a11 :: a12 :: a13 :: a14 :: a15 :: a16 :: a17 :: a18 :: a :: r) H Q := h
theorem g19 {a0 a1 a2 a3 a4 a5 a6 a7 a8 a9 a10 a11 a12 a13 a14 a15 a16 a17 a18 : Option V} {ti : TIp} (h : te (a0 :: a1 :: a2 :: a3 :: a4 :: a5 :: a6 :: a7 :: a8 :: a9 :: a10 :: a11 :: a12 :: a13 :: a14 :: a15 :: a16 :: a17 :: a18 :: some x :: r) H fun y H1 => ti x y H1 fun z H2 => D.nx (a0 :: a1 :: a2 :: a3 :: a4 :: a5 :: a6 :: a7 :: a8 :: a9 :: a10 :: a11 :: a12 :: a13 :: a14 :: a15 :: a16 :: a17 :: a18 :: some z :: r) H2) : tAug 19 te ti D (a0 :: a1 :: a2 :: a3 :: a4 :: a5 :: a6 :: a7 :: a8 :: a9 :: a10 :: a11 :: a12 :: a13 :: a14 :: a15 :: a16 :: a17 :: a18 :: some x :: r) H := ⟨x, rfl, h⟩
theorem v20 {a0 a1 a2 a3 a4 a5 a6 a7 a8 a9 a10 a11 a12 a13 a14 a15 a16 a17 a18 a19 : Option V} (h : Q v H) : tVar 20 (a0 :: a1 :: a2 :: a3 :: a4 :: a5 :: a6 :: a7 :: a8 :: a9 :: a10 :: a11 :: a12 :: a13 :: a14 :: a15 :: a16 :: a17 :: a18 :: a19 :: some v :: r) H Q := ⟨v, rfl, h⟩
theorem n20 {a0 a1 a2 a3 a4 a5 a6 a7 a8 a9 a10 a11 a12 a13 a14 a15 a16 a17 a18 a19 : Option V} {Q : L2.St → Hp → Prop} (h : Q (a0 :: a1 :: a2 :: a3 :: a4 :: a5 :: a6 :: a7 :: a8 :: a9 :: a10 :: a11 :: a12 :: a13 :: a14 :: a15 :: a16 :: a17 :: a18 :: a19 :: some v :: r) H) : gName 20 v (a0 :: a1 :: a2 :: a3 :: a4 :: a5 :: a6 :: a7 :: a8 :: a9 :: a10 :: a11 :: a12 :: a13 :: a14 :: a15 :: a16 :: a17 :: a18 :: a19 :: a :: r) H Q := h
theorem g20 {a0 a1 a2 a3 a4 a5 a6 a7 a8 a9 a10 a11 a12 a13 a14 a15 a16 a17 a18 a19 : Option V} {ti : TIp} (h : te (a0 :: a1 :: a2 :: a3 :: a4 :: a5 :: a6 :: a7 :: a8 :: a9 :: a10 :: a11 :: a12 :: a13 :: a14 :: a15 :: a16 :: a17 :: a18 :: a19 :: some x :: r) H fun y H1 => ti x y H1 fun z H2 => D.nx (a0 :: a1 :: a2 :: a3 :: a4 :: a5 :: a6 :: a7 :: a8 :: a9 :: a10 :: a11 :: a12 :: a13 :: a14 :: a15 :: a16 :: a17 :: a18 :: a19 :: some z :: r) H2) : tAug 20 te ti D (a0 :: a1 :: a2 :: a3 :: a4 :: a5 :: a6 :: a7 :: a8 :: a9 :: a10 :: a11 :: a12 :: a13 :: a14 :: a15 :: a16 :: a17 :: a18 :: a19 :: some x :: r) H := ⟨x, rfl, h⟩
theorem v21 {a0 a1 a2 a3 a4 a5 a6 a7 a8 a9 a10 a11 a12 a13 a14 a15 a16 a17 a18 a19 a20 : Option V} (h : Q v H) : tVar 21 (a0 :: a1 :: a2 :: a3 :: a4 :: a5 :: a6 :: a7 :: a8 :: a9 :: a10 :: a11 :: a12 :: a13 :: a14 :: a15 :: a16 :: a17 :: a18 :: a19 :: a20 :: some v :: r) H Q := ⟨v, rfl, h⟩
theorem n21 {a0 a1 a2 a3 a4 a5 a6 a7 a8 a9 a10 a11 a12 a13 a14 a15 a16 a17 a18 a19 a20 : Option V} {Q : L2.St → Hp → Prop} (h : Q (a0 :: a1 :: a2 :: a3 :: a4 :: a5 :: a6 :: a7 :: a8 :: a9 :: a10 :: a11 :: a12 :: a13 :: a14 :: a15 :: a16 :: a17 :: a18 :: a19 :: a20 :: some v :: r) H) : gName 21 v (a0 :: a1 :: a2 :: a3 :: a4 :: a5 :: a6 :: a7 :: a8 :: a9 :: a10 :: a11 :: a12 :: a13 :: a14 :: a15 :: a16 :: a17 :: a18 :: a19 :: a20 :: a :: r) H Q := h
theorem g21 {a0 a1 a2 a3 a4 a5 a6 a7 a8 a9 a10 a11 a12 a13 a14 a15 a16 a17 a18 a19 a20 : Option V} {ti : TIp} (h : te (a0 :: a1 :: a2 :: a3 :: a4 :: a5 :: a6 :: a7 :: a8 :: a9 :: a10 :: a11 :: a12 :: a13 :: a14 :: a15 :: a16 :: a17 :: a18 :: a19 :: a20 :: some x :: r) H fun y H1 => ti x y H1 fun z H2 => D.nx (a0 :: a1 :: a2 :: a3 :: a4 :: a5 :: a6 :: a7 :: a8 :: a9 :: a10 :: a11 :: a12 :: a13 :: a14 :: a15 :: a16 :: a17 :: a18 :: a19 :: a20 :: some z :: r) H2) : tAug 21 te ti D (a0 :: a1 :: a2 :: a3 :: a4 :: a5 :: a6 :: a7 :: a8 :: a9 :: a10 :: a11 :: a12 :: a13 :: a14 :: a15 :: a16 :: a17 :: a18 :: a19 :: a20 :: some x :: r) H := ⟨x, rfl, h⟩
theorem v22 {a0 a1 a2 a3 a4 a5 a6 a7 a8 a9 a10 a11 a12 a13 a14 a15 a16 a17 a18 a19 a20 a21 : Option V} (h : Q v H) : tVar 22 (a0 :: a1 :: a2 :: a3 :: a4 :: a5 :: a6 :: a7 :: a8 :: a9 :: a10 :: a11 :: a12 :: a13 :: a14 :: a15 :: a16 :: a17 :: a18 :: a19 :: a20 :: a21 :: some v :: r) H Q := ⟨v, rfl, h⟩
theorem n22 {a0 a1 a2 a3 a4 a5 a6 a7 a8 a9 a10 a11 a12 a13 a14 a15 a16 a17 a18 a19 a20 a21 : Option V} {Q : L2.St → Hp → Prop} (h : Q (a0 :: a1 :: a2 :: a3 :: a4 :: a5 :: a6 :: a7 :: a8 :: a9 :: a10 :: a11 :: a12 :: a13 :: a14 :: a15 :: a16 :: a17 :: a18 :: a19 :: a20 :: a21 :: some v :: r) H) : gName 22 v (a0 :: a1 :: a2 :: a3 :: a4 :: a5 :: a6 :: a7 :: a8 :: a9 :: a10 :: a11 :: a12 :: a13 :: a14 :: a15 :: a16 :: a17 :: a18 :: a19 :: a20 :: a21 :: a :: r) H Q := h
theorem g22 {a0 a1 a2 a3 a4 a5 a6 a7 a8 a9 a10 a11 a12 a13 a14 a15 a16 a17 a18 a19 a20 a21 : Option V} {ti : TIp} (h : te (a0 :: a1 :: a2 :: a3 :: a4 :: a5 :: a6 :: a7 :: a8 :: a9 :: a10 :: a11 :: a12 :: a13 :: a14 :: a15 :: a16 :: a17 :: a18 :: a19 :: a20 :: a21 :: some x :: r) H fun y H1 => ti x y H1 fun z H2 => D.nx (a0 :: a1 :: a2 :: a3 :: a4 :: a5 :: a6 :: a7 :: a8 :: a9 :: a10 :: a11 :: a12 :: a13 :: a14 :: a15 :: a16 :: a17 :: a18 :: a19 :: a20 :: a21 :: some z :: r) H2) : tAug 22 te ti D (a0 :: a1 :: a2 :: a3 :: a4 :: a5 :: a6 :: a7 :: a8 :: a9 :: a10 :: a11 :: a12 :: a13 :: a14 :: a15 :: a16 :: a17 :: a18 :: a19 :: a20 :: a21 :: some x :: r) H := ⟨x, rfl, h⟩
theorem v23 {a0 a1 a2 a3 a4 a5 a6 a7 a8 a9 a10 a11 a12 a13 a14 a15 a16 a17 a18 a19 a20 a21 a22 : Option V} (h : Q v H) : tVar 23 (a0 :: a1 :: a2 :: a3 :: a4 :: a5 :: a6 :: a7 :: a8 :: a9 :: a10 :: a11 :: a12 :: a13 :: a14 :: a15 :: a16 :: a17 :: a18 :: a19 :: a20 :: a21 :: a22 :: some v :: r) H Q := ⟨v, rfl, h⟩
theorem n23 {a0 a1 a2 a3 a4 a5 a6 a7 a8 a9 a10 a11 a12 a13 a14 a15 a16 a17 a18 a19 a20 a21 a22 : Option V} {Q : L2.St → Hp → Prop} (h : Q (a0 :: a1 :: a2 :: a3 :: a4 :: a5 :: a6 :: a7 :: a8 :: a9 :: a10 :: a11 :: a12 :: a13 :: a14 :: a15 :: a16 :: a17 :: a18 :: a19 :: a20 :: a21 :: a22 :: some v :: r) H) : gName 23 v (a0 :: a1 :: a2 :: a3 :: a4 :: a5 :: a6 :: a7 :: a8 :: a9 :: a10 :: a11 :: a12 :: a13 :: a14 :: a15 :: a16 :: a17 :: a18 :: a19 :: a20 :: a21 :: a22 :: a :: r) H Q := h
theorem g23 {a0 a1 a2 a3 a4 a5 a6 a7 a8 a9 a10 a11 a12 a13 a14 a15 a16 a17 a18 a19 a20 a21 a22 : Option V} {ti : TIp} (h : te (a0 :: a1 :: a2 :: a3 :: a4 :: a5 :: a6 :: a7 :: a8 :: a9 :: a10 :: a11 :: a12 :: a13 :: a14 :: a15 :: a16 :: a17 :: a18 :: a19 :: a20 :: a21 :: a22 :: some x :: r) H fun y H1 => ti x y H1 fun z H2 => D.nx (a0 :: a1 :: a2 :: a3 :: a4 :: a5 :: a6 :: a7 :: a8 :: a9 :: a10 :: a11 :: a12 :: a13 :: a14 :: a15 :: a16 :: a17 :: a18 :: a19 :: a20 :: a21 :: a22 :: some z :: r) H2) : tAug 23 te ti D (a0 :: a1 :: a2 :: a3 :: a4 :: a5 :: a6 :: a7 :: a8 :: a9 :: a10 :: a11 :: a12 :: a13 :: a14 :: a15 :: a16 :: a17 :: a18 :: a19 :: a20 :: a21 :: a22 :: some x :: r) H := ⟨x, rfl, h⟩
theorem v24 {a0 a1 a2 a3 a4 a5 a6 a7 a8 a9 a10 a11 a12 a13 a14 a15 a16 a17 a18 a19 a20 a21 a22 a23 : Option V} (h : Q v H) : tVar 24 (a0 :: a1 :: a2 :: a3 :: a4 :: a5 :: a6 :: a7 :: a8 :: a9 :: a10 :: a11 :: a12 :: a13 :: a14 :: a15 :: a16 :: a17 :: a18 :: a19 :: a20 :: a21 :: a22 :: a23 :: some v :: r) H Q := ⟨v, rfl, h⟩
theorem n24 {a0 a1 a2 a3 a4 a5 a6 a7 a8 a9 a10 a11 a12 a13 a14 a15 a16 a17 a18 a19 a20 a21 a22 a23 : Option V} {Q : L2.St → Hp → Prop} (h : Q (a0 :: a1 :: a2 :: a3 :: a4 :: a5 :: a6 :: a7 :: a8 :: a9 :: a10 :: a11 :: a12 :: a13 :: a14 :: a15 :: a16 :: a17 :: a18 :: a19 :: a20 :: a21 :: a22 :: a23 :: some v :: r) H) : gName 24 v (a0 :: a1 :: a2 :: a3 :: a4 :: a5 :: a6 :: a7 :: a8 :: a9 :: a10 :: a11 :: a12 :: a13 :: a14 :: a15 :: a16 :: a17 :: a18 :: a19 :: a20 :: a21 :: a22 :: a23 :: a :: r) H Q := h
theorem g24 {a0 a1 a2 a3 a4 a5 a6 a7 a8 a9 a10 a11 a12 a13 a14 a15 a16 a17 a18 a19 a20 a21 a22 a23 : Option V} {ti : TIp} (h : te (a0 :: a1 :: a2 :: a3 :: a4 :: a5 :: a6 :: a7 :: a8 :: a9 :: a10 :: a11 :: a12 :: a13 :: a14 :: a15 :: a16 :: a17 :: a18 :: a19 :: a20 :: a21 :: a22 :: a23 :: some x :: r) H fun y H1 => ti x y H1 fun z H2 => D.nx (a0 :: a1 :: a2 :: a3 :: a4 :: a5 :: a6 :: a7 :: a8 :: a9 :: a10 :: a11 :: a12 :: a13 :: a14 :: a15 :: a16 :: a17 :: a18 :: a19 :: a20 :: a21 :: a22 :: a23 :: some z :: r) H2) : tAug 24 te ti D (a0 :: a1 :: a2 :: a3 :: a4 :: a5 :: a6 :: a7 :: a8 :: a9 :: a10 :: a11 :: a12 :: a13 :: a14 :: a15 :: a16 :: a17 :: a18 :: a19 :: a20 :: a21 :: a22 :: a23 :: some x :: r) H := ⟨x, rfl, h⟩
theorem v25 {a0 a1 a2 a3 a4 a5 a6 a7 a8 a9 a10 a11 a12 a13 a14 a15 a16 a17 a18 a19 a20 a21 a22 a23 a24 : Option V} (h : Q v H) : tVar 25 (a0 :: a1 :: a2 :: a3 :: a4 :: a5 :: a6 :: a7 :: a8 :: a9 :: a10 :: a11 :: a12 :: a13 :: a14 :: a15 :: a16 :: a17 :: a18 :: a19 :: a20 :: a21 :: a22 :: a23 :: a24 :: some v :: r) H Q := ⟨v, rfl, h⟩
theorem n25 {a0 a1 a2 a3 a4 a5 a6 a7 a8 a9 a10 a11 a12 a13 a14 a15 a16 a17 a18 a19 a20 a21 a22 a23 a24 : Option V} {Q : L2.St → Hp → Prop} (h : Q (a0 :: a1 :: a2 :: a3 :: a4 :: a5 :: a6 :: a7 :: a8 :: a9 :: a10 :: a11 :: a12 :: a13 :: a14 :: a15 :: a16 :: a17 :: a18 :: a19 :: a20 :: a21 :: a22 :: a23 :: a24 :: some v :: r) H) : gName 25 v (a0 :: a1 :: a2 :: a3 :: a4 :: a5 :: a6 :: a7 :: a8 :: a9 :: a10 :: a11 :: a12 :: a13 :: a14 :: a15 :: a16 :: a17 :: a18 :: a19 :: a20 :: a21 :: a22 :: a23 :: a24 :: a :: r) H Q := h
theorem g25 {a0 a1 a2 a3 a4 a5 a6 a7 a8 a9 a10 a11 a12 a13 a14 a15 a16 a17 a18 a19 a20 a21 a22 a23 a24 : Option V} {ti : TIp} (h : te (a0 :: a1 :: a2 :: a3 :: a4 :: a5 :: a6 :: a7 :: a8 :: a9 :: a10 :: a11 :: a12 :: a13 :: a14 :: a15 :: a16 :: a17 :: a18 :: a19 :: a20 :: a21 :: a22 :: a23 :: a24 :: some x :: r) H fun y H1 => ti x y H1 fun z H2 => D.nx (a0 :: a1 :: a2 :: a3 :: a4 :: a5 :: a6 :: a7 :: a8 :: a9 :: a10 :: a11 :: a12 :: a13 :: a14 :: a15 :: a16 :: a17 :: a18 :: a19 :: a20 :: a21 :: a22 :: a23 :: a24 :: some z :: r) H2) : tAug 25 te ti D (a0 :: a1 :: a2 :: a3 :: a4 :: a5 :: a6 :: a7 :: a8 :: a9 :: a10 :: a11 :: a12 :: a13 :: a14 :: a15 :: a16 :: a17 :: a18 :: a19 :: a20 :: a21 :: a22 :: a23 :: a24 :: some x :: r) H := ⟨x, rfl, h⟩
theorem v26 {a0 a1 a2 a3 a4 a5 a6 a7 a8 a9 a10 a11 a12 a13 a14 a15 a16 a17 a18 a19 a20 a21 a22 a23 a24 a25 : Option V} (h : Q v H) : tVar 26 (a0 :: a1 :: a2 :: a3 :: a4 :: a5 :: a6 :: a7 :: a8 :: a9 :: a10 :: a11 :: a12 :: a13 :: a14 :: a15 :: a16 :: a17 :: a18 :: a19 :: a20 :: a21 :: a22 :: a23 :: a24 :: a25 :: some v :: r) H Q := ⟨v, rfl, h⟩
theorem n26 {a0 a1 a2 a3 a4 a5 a6 a7 a8 a9 a10 a11 a12 a13 a14 a15 a16 a17 a18 a19 a20 a21 a22 a23 a24 a25 : Option V} {Q : L2.St → Hp → Prop} (h : Q (a0 :: a1 :: a2 :: a3 :: a4 :: a5 :: a6 :: a7 :: a8 :: a9 :: a10 :: a11 :: a12 :: a13 :: a14 :: a15 :: a16 :: a17 :: a18 :: a19 :: a20 :: a21 :: a22 :: a23 :: a24 :: a25 :: some v :: r) H) : gName 26 v (a0 :: a1 :: a2 :: a3 :: a4 :: a5 :: a6 :: a7 :: a8 :: a9 :: a10 :: a11 :: a12 :: a13 :: a14 :: a15 :: a16 :: a17 :: a18 :: a19 :: a20 :: a21 :: a22 :: a23 :: a24 :: a25 :: a :: r) H Q := h
theorem g26 {a0 a1 a2 a3 a4 a5 a6 a7 a8 a9 a10 a11 a12 a13 a14 a15 a16 a17 a18 a19 a20 a21 a22 a23 a24 a25 : Option V} {ti : TIp} (h : te (a0 :: a1 :: a2 :: a3 :: a4 :: a5 :: a6 :: a7 :: a8 :: a9 :: a10 :: a11 :: a12 :: a13 :: a14 :: a15 :: a16 :: a17 :: a18 :: a19 :: a20 :: a21 :: a22 :: a23 :: a24 :: a25 :: some x :: r) H fun y H1 => ti x y H1 fun z H2 => D.nx (a0 :: a1 :: a2 :: a3 :: a4 :: a5 :: a6 :: a7 :: a8 :: a9 :: a10 :: a11 :: a12 :: a13 :: a14 :: a15 :: a16 :: a17 :: a18 :: a19 :: a20 :: a21 :: a22 :: a23 :: a24 :: a25 :: some z :: r) H2) : tAug 26 te ti D (a0 :: a1 :: a2 :: a3 :: a4 :: a5 :: a6 :: a7 :: a8 :: a9 :: a10 :: a11 :: a12 :: a13 :: a14 :: a15 :: a16 :: a17 :: a18 :: a19 :: a20 :: a21 :: a22 :: a23 :: a24 :: a25 :: some x :: r) H := ⟨x, rfl, h⟩
theorem v27 {a0 a1 a2 a3 a4 a5 a6 a7 a8 a9 a10 a11 a12 a13 a14 a15 a16 a17 a18 a19 a20 a21 a22 a23 a24 a25 a26 : Option V} (h : Q v H) : tVar 27 (a0 :: a1 :: a2 :: a3 :: a4 :: a5 :: a6 :: a7 :: a8 :: a9 :: a10 :: a11 :: a12 :: a13 :: a14 :: a15 :: a16 :: a17 :: a18 :: a19 :: a20 :: a21 :: a22 :: a23 :: a24 :: a25 :: a26 :: some v :: r) H Q := ⟨v, rfl, h⟩
theorem n27 {a0 a1 a2 a3 a4 a5 a6 a7 a8 a9 a10 a11 a12 a13 a14 a15 a16 a17 a18 a19 a20 a21 a22 a23 a24 a25 a26 : Option V} {Q : L2.St → Hp → Prop} (h : Q (a0 :: a1 :: a2 :: a3 :: a4 :: a5 :: a6 :: a7 :: a8 :: a9 :: a10 :: a11 :: a12 :: a13 :: a14 :: a15 :: a16 :: a17 :: a18 :: a19 :: a20 :: a21 :: a22 :: a23 :: a24 :: a25 :: a26 :: some v :: r) H) : gName 27 v (a0 :: a1 :: a2 :: a3 :: a4 :: a5 :: a6 :: a7 :: a8 :: a9 :: a10 :: a11 :: a12 :: a13 :: a14 :: a15 :: a16 :: a17 :: a18 :: a19 :: a20 :: a21 :: a22 :: a23 :: a24 :: a25 :: a26 :: a :: r) H Q := h
theorem g27 {a0 a1 a2 a3 a4 a5 a6 a7 a8 a9 a10 a11 a12 a13 a14 a15 a16 a17 a18 a19 a20 a21 a22 a23 a24 a25 a26 : Option V} {ti : TIp} (h : te (a0 :: a1 :: a2 :: a3 :: a4 :: a5 :: a6 :: a7 :: a8 :: a9 :: a10 :: a11 :: a12 :: a13 :: a14 :: a15 :: a16 :: a17 :: a18 :: a19 :: a20 :: a21 :: a22 :: a23 :: a24 :: a25 :: a26 :: some x :: r) H fun y H1 => ti x y H1 fun z H2 => D.nx (a0 :: a1 :: a2 :: a3 :: a4 :: a5 :: a6 :: a7 :: a8 :: a9 :: a10 :: a11 :: a12 :: a13 :: a14 :: a15 :: a16 :: a17 :: a18 :: a19 :: a20 :: a21 :: a22 :: a23 :: a24 :: a25 :: a26 :: some z :: r) H2) : tAug 27 te ti D (a0 :: a1 :: a2 :: a3 :: a4 :: a5 :: a6 :: a7 :: a8 :: a9 :: a10 :: a11 :: a12 :: a13 :: a14 :: a15 :: a16 :: a17 :: a18 :: a19 :: a20 :: a21 :: a22 :: a23 :: a24 :: a25 :: a26 :: some x :: r) H := ⟨x, rfl, h⟩
end Rd

set_option Elab.async false
set_option linter.all false
set_option maxRecDepth 100000
set_option maxHeartbeats 4000000


namespace Mine
open PySem PySem.Spec PyProof.Rows L2
/-! ### the text -/
def topS (i : Nat) : Stmt := PySem.Challenge.pw_deadbeat_k03_tokens_of_a_text.main.body.getD i (.Pass ⟨0, 0, 0, 0⟩)
abbrev s_decimal : Stmt := topS 4
theorem sc_decimal : FnScope ["n", "pieces", "rest", "low"] ["n"] (defScope s_decimal) := ⟨rfl, rfl, rfl, by decide +kernel, rfl, by decide +kernel, by decide +kernel⟩
abbrev s_decimal_number : Stmt := topS 26
theorem sc_decimal_number : FnScope ["run", "value"] ["run"] (defScope s_decimal_number) := ⟨rfl, rfl, rfl, by decide +kernel, rfl, by decide +kernel, by decide +kernel⟩
abbrev s__spelled : Stmt := topS 19
theorem sc__spelled : FnScope ["value"] ["value"] (defScope s__spelled) := ⟨rfl, rfl, rfl, by decide +kernel, rfl, by decide +kernel, by decide +kernel⟩
abbrev s__law_state : Stmt := topS 31
theorem sc__law_state : FnScope ["script", "seed", "cell"] ["script"] (defScope s__law_state) := ⟨rfl, rfl, rfl, by decide +kernel, rfl, by decide +kernel, by decide +kernel⟩
abbrev s__law_draw : Stmt := topS 32
theorem sc__law_draw : FnScope ["state", "many", "cells", "value", "mixed"] ["state", "many"] (defScope s__law_draw) := ⟨rfl, rfl, rfl, by decide +kernel, rfl, by decide +kernel, by decide +kernel⟩
abbrev s__in_run : Stmt := topS 23
theorem sc__in_run : FnScope ["character"] ["character"] (defScope s__in_run) := ⟨rfl, rfl, rfl, by decide +kernel, rfl, by decide +kernel, by decide +kernel⟩
abbrev s__run : Stmt := topS 22
theorem sc__run : FnScope ["text", "at", "end"] ["text", "at"] (defScope s__run) := ⟨rfl, rfl, rfl, by decide +kernel, rfl, by decide +kernel, by decide +kernel⟩
abbrev s__comment_end : Stmt := topS 21
theorem sc__comment_end : FnScope ["text", "at", "end"] ["text", "at"] (defScope s__comment_end) := ⟨rfl, rfl, rfl, by decide +kernel, rfl, by decide +kernel, by decide +kernel⟩
abbrev s__longest_sign : Stmt := topS 29
theorem sc__longest_sign : FnScope ["text", "at", "sign"] ["text", "at"] (defScope s__longest_sign) := ⟨rfl, rfl, rfl, by decide +kernel, rfl, by decide +kernel, by decide +kernel⟩
abbrev s__consists_of : Stmt := topS 28
theorem sc__consists_of : FnScope ["run", "allowed", "character"] ["run", "allowed"] (defScope s__consists_of) := ⟨rfl, rfl, rfl, by decide +kernel, rfl, by decide +kernel, by decide +kernel⟩
abbrev s__hex_number : Stmt := topS 27
theorem sc__hex_number : FnScope ["digits"] ["digits"] (defScope s__hex_number) := ⟨rfl, rfl, rfl, by decide +kernel, rfl, by decide +kernel, by decide +kernel⟩
abbrev s__number : Stmt := topS 25
theorem sc__number : FnScope ["run"] ["run"] (defScope s__number) := ⟨rfl, rfl, rfl, by decide +kernel, rfl, by decide +kernel, by decide +kernel⟩
abbrev s_is_reserved : Stmt := topS 17
theorem sc_is_reserved : FnScope ["name"] ["name"] (defScope s_is_reserved) := ⟨rfl, rfl, rfl, by decide +kernel, rfl, by decide +kernel, by decide +kernel⟩
abbrev s__run_token : Stmt := topS 24
theorem sc__run_token : FnScope ["run", "line", "value"] ["run", "line"] (defScope s__run_token) := ⟨rfl, rfl, rfl, by decide +kernel, rfl, by decide +kernel, by decide +kernel⟩
abbrev s_tokenize : Stmt := topS 20
theorem sc_tokenize : FnScope ["text", "tokens", "line", "at", "character", "run", "sign"] ["text"] (defScope s_tokenize) := ⟨rfl, rfl, rfl, by decide +kernel, rfl, by decide +kernel, by decide +kernel⟩
abbrev s_spell : Stmt := topS 18
theorem sc_spell : FnScope ["tokens", "_", "value"] ["tokens"] (defScope s_spell) := ⟨rfl, rfl, rfl, by decide +kernel, rfl, by decide +kernel, by decide +kernel⟩
abbrev s__law_words : Stmt := topS 33
theorem sc__law_words : FnScope ["text"] [] (defScope s__law_words) := ⟨rfl, rfl, rfl, by decide +kernel, rfl, by decide +kernel, by decide +kernel⟩
abbrev s__law_signs : Stmt := topS 34
theorem sc__law_signs : FnScope [] [] (defScope s__law_signs) := ⟨rfl, rfl, rfl, by decide +kernel, rfl, by decide +kernel, by decide +kernel⟩
abbrev s__law_comment : Stmt := topS 39
theorem sc__law_comment : FnScope ["state", "text", "k"] ["state"] (defScope s__law_comment) := ⟨rfl, rfl, rfl, by decide +kernel, rfl, by decide +kernel, by decide +kernel⟩
abbrev s__law_gap : Stmt := topS 40
theorem sc__law_gap : FnScope ["state", "kind"] ["state"] (defScope s__law_gap) := ⟨rfl, rfl, rfl, by decide +kernel, rfl, by decide +kernel, by decide +kernel⟩
abbrev s__law_number : Stmt := topS 36
theorem sc__law_number : FnScope ["state", "kind"] ["state"] (defScope s__law_number) := ⟨rfl, rfl, rfl, by decide +kernel, rfl, by decide +kernel, by decide +kernel⟩
abbrev s__law_name : Stmt := topS 35
theorem sc__law_name : FnScope ["state", "letters", "inner", "size", "name"] ["state"] (defScope s__law_name) := ⟨rfl, rfl, rfl, by decide +kernel, rfl, by decide +kernel, by decide +kernel⟩
abbrev s__law_hex : Stmt := topS 37
theorem sc__law_hex : FnScope ["n", "size", "digits"] ["n", "size"] (defScope s__law_hex) := ⟨rfl, rfl, rfl, by decide +kernel, rfl, by decide +kernel, by decide +kernel⟩
abbrev s__law_piece : Stmt := topS 38
theorem sc__law_piece : FnScope ["state", "kind", "words", "word", "n", "name", "signs", "sign"] ["state"] (defScope s__law_piece) := ⟨rfl, rfl, rfl, by decide +kernel, rfl, by decide +kernel, by decide +kernel⟩
abbrev s__law_apart : Stmt := topS 41
theorem sc__law_apart : FnScope ["before", "behind"] ["before", "behind"] (defScope s__law_apart) := ⟨rfl, rfl, rfl, by decide +kernel, rfl, by decide +kernel, by decide +kernel⟩
abbrev s__law_newlines : Stmt := topS 42
theorem sc__law_newlines : FnScope ["text", "char"] ["text"] (defScope s__law_newlines) := ⟨rfl, rfl, rfl, by decide +kernel, rfl, by decide +kernel, by decide +kernel⟩
abbrev s__law_same : Stmt := topS 43
theorem sc__law_same : FnScope ["actual", "due", "k", "token"] ["actual", "due"] (defScope s__law_same) := ⟨rfl, rfl, rfl, by decide +kernel, rfl, by decide +kernel, by decide +kernel⟩
abbrev s_law : Stmt := topS 44
theorem sc_law : FnScope ["script", "state", "text", "due", "pieces", "k", "piece", "actual", "reserved", "spelled"] ["script"] (defScope s_law) := ⟨rfl, rfl, rfl, by decide +kernel, rfl, by decide +kernel, by decide +kernel⟩
structure Top (K : PySem.W.Frag) (mg : Str → Option Value) where
  a_decimal : Addr
  d_decimal : FuncData
  F_decimal : Fun K "decimal" "decimal" s_decimal a_decimal d_decimal
  g_decimal : mg "decimal" = some (.ref a_decimal)
  b_decimal : Binds K d_decimal ["n"] []
  a_decimal_number : Addr
  d_decimal_number : FuncData
  F_decimal_number : Fun K "decimal_number" "decimal_number" s_decimal_number a_decimal_number d_decimal_number
  g_decimal_number : mg "decimal_number" = some (.ref a_decimal_number)
  b_decimal_number : Binds K d_decimal_number ["run"] []
  a__spelled : Addr
  d__spelled : FuncData
  F__spelled : Fun K "_spelled" "_spelled" s__spelled a__spelled d__spelled
  g__spelled : mg "_spelled" = some (.ref a__spelled)
  b__spelled : Binds K d__spelled ["value"] []
  a__law_state : Addr
  d__law_state : FuncData
  F__law_state : Fun K "_law_state" "_law_state" s__law_state a__law_state d__law_state
  g__law_state : mg "_law_state" = some (.ref a__law_state)
  b__law_state : Binds K d__law_state ["script"] []
  a__law_draw : Addr
  d__law_draw : FuncData
  F__law_draw : Fun K "_law_draw" "_law_draw" s__law_draw a__law_draw d__law_draw
  g__law_draw : mg "_law_draw" = some (.ref a__law_draw)
  b__law_draw : Binds K d__law_draw ["state", "many"] []
  a__in_run : Addr
  d__in_run : FuncData
  F__in_run : Fun K "_in_run" "_in_run" s__in_run a__in_run d__in_run
  g__in_run : mg "_in_run" = some (.ref a__in_run)
  b__in_run : Binds K d__in_run ["character"] []
  a__run : Addr
  d__run : FuncData
  F__run : Fun K "_run" "_run" s__run a__run d__run
  g__run : mg "_run" = some (.ref a__run)
  b__run : Binds K d__run ["text", "at"] []
  a__comment_end : Addr
  d__comment_end : FuncData
  F__comment_end : Fun K "_comment_end" "_comment_end" s__comment_end a__comment_end d__comment_end
  g__comment_end : mg "_comment_end" = some (.ref a__comment_end)
  b__comment_end : Binds K d__comment_end ["text", "at"] []
  a__longest_sign : Addr
  d__longest_sign : FuncData
  F__longest_sign : Fun K "_longest_sign" "_longest_sign" s__longest_sign a__longest_sign d__longest_sign
  g__longest_sign : mg "_longest_sign" = some (.ref a__longest_sign)
  b__longest_sign : Binds K d__longest_sign ["text", "at"] []
  a__consists_of : Addr
  d__consists_of : FuncData
  F__consists_of : Fun K "_consists_of" "_consists_of" s__consists_of a__consists_of d__consists_of
  g__consists_of : mg "_consists_of" = some (.ref a__consists_of)
  b__consists_of : Binds K d__consists_of ["run", "allowed"] []
  a__hex_number : Addr
  d__hex_number : FuncData
  F__hex_number : Fun K "_hex_number" "_hex_number" s__hex_number a__hex_number d__hex_number
  g__hex_number : mg "_hex_number" = some (.ref a__hex_number)
  b__hex_number : Binds K d__hex_number ["digits"] []
  a__number : Addr
  d__number : FuncData
  F__number : Fun K "_number" "_number" s__number a__number d__number
  g__number : mg "_number" = some (.ref a__number)
  b__number : Binds K d__number ["run"] []
  a_is_reserved : Addr
  d_is_reserved : FuncData
  F_is_reserved : Fun K "is_reserved" "is_reserved" s_is_reserved a_is_reserved d_is_reserved
  g_is_reserved : mg "is_reserved" = some (.ref a_is_reserved)
  b_is_reserved : Binds K d_is_reserved ["name"] []
  a__run_token : Addr
  d__run_token : FuncData
  F__run_token : Fun K "_run_token" "_run_token" s__run_token a__run_token d__run_token
  g__run_token : mg "_run_token" = some (.ref a__run_token)
  b__run_token : Binds K d__run_token ["run", "line"] []
  a_tokenize : Addr
  d_tokenize : FuncData
  F_tokenize : Fun K "tokenize" "tokenize" s_tokenize a_tokenize d_tokenize
  g_tokenize : mg "tokenize" = some (.ref a_tokenize)
  b_tokenize : Binds K d_tokenize ["text"] []
  a_spell : Addr
  d_spell : FuncData
  F_spell : Fun K "spell" "spell" s_spell a_spell d_spell
  g_spell : mg "spell" = some (.ref a_spell)
  b_spell : Binds K d_spell ["tokens"] []
  a__law_words : Addr
  d__law_words : FuncData
  F__law_words : Fun K "_law_words" "_law_words" s__law_words a__law_words d__law_words
  g__law_words : mg "_law_words" = some (.ref a__law_words)
  b__law_words : Binds K d__law_words [] []
  a__law_signs : Addr
  d__law_signs : FuncData
  F__law_signs : Fun K "_law_signs" "_law_signs" s__law_signs a__law_signs d__law_signs
  g__law_signs : mg "_law_signs" = some (.ref a__law_signs)
  b__law_signs : Binds K d__law_signs [] []
  a__law_comment : Addr
  d__law_comment : FuncData
  F__law_comment : Fun K "_law_comment" "_law_comment" s__law_comment a__law_comment d__law_comment
  g__law_comment : mg "_law_comment" = some (.ref a__law_comment)
  b__law_comment : Binds K d__law_comment ["state"] []
  a__law_gap : Addr
  d__law_gap : FuncData
  F__law_gap : Fun K "_law_gap" "_law_gap" s__law_gap a__law_gap d__law_gap
  g__law_gap : mg "_law_gap" = some (.ref a__law_gap)
  b__law_gap : Binds K d__law_gap ["state"] []
  a__law_number : Addr
  d__law_number : FuncData
  F__law_number : Fun K "_law_number" "_law_number" s__law_number a__law_number d__law_number
  g__law_number : mg "_law_number" = some (.ref a__law_number)
  b__law_number : Binds K d__law_number ["state"] []
  a__law_name : Addr
  d__law_name : FuncData
  F__law_name : Fun K "_law_name" "_law_name" s__law_name a__law_name d__law_name
  g__law_name : mg "_law_name" = some (.ref a__law_name)
  b__law_name : Binds K d__law_name ["state"] []
  a__law_hex : Addr
  d__law_hex : FuncData
  F__law_hex : Fun K "_law_hex" "_law_hex" s__law_hex a__law_hex d__law_hex
  g__law_hex : mg "_law_hex" = some (.ref a__law_hex)
  b__law_hex : Binds K d__law_hex ["n", "size"] []
  a__law_piece : Addr
  d__law_piece : FuncData
  F__law_piece : Fun K "_law_piece" "_law_piece" s__law_piece a__law_piece d__law_piece
  g__law_piece : mg "_law_piece" = some (.ref a__law_piece)
  b__law_piece : Binds K d__law_piece ["state"] []
  a__law_apart : Addr
  d__law_apart : FuncData
  F__law_apart : Fun K "_law_apart" "_law_apart" s__law_apart a__law_apart d__law_apart
  g__law_apart : mg "_law_apart" = some (.ref a__law_apart)
  b__law_apart : Binds K d__law_apart ["before", "behind"] []
  a__law_newlines : Addr
  d__law_newlines : FuncData
  F__law_newlines : Fun K "_law_newlines" "_law_newlines" s__law_newlines a__law_newlines d__law_newlines
  g__law_newlines : mg "_law_newlines" = some (.ref a__law_newlines)
  b__law_newlines : Binds K d__law_newlines ["text"] []
  a__law_same : Addr
  d__law_same : FuncData
  F__law_same : Fun K "_law_same" "_law_same" s__law_same a__law_same d__law_same
  g__law_same : mg "_law_same" = some (.ref a__law_same)
  b__law_same : Binds K d__law_same ["actual", "due"] []
  a_law : Addr
  d_law : FuncData
  F_law : Fun K "law" "law" s_law a_law d_law
  g_law : mg "law" = some (.ref a_law)
  b_law : Binds K d_law ["script"] []
  m_str : mg "str" = none
  m_divmod : mg "divmod" = none
  m_abs : mg "abs" = none
  m_int : mg "int" = none
  m_len : mg "len" = none
  m_isinstance : mg "isinstance" = none
  m_all : mg "all" = none
  m_range : mg "range" = none
  m_bool : mg "bool" = none
  m_tuple : mg "tuple" = none
  m_list : mg "list" = none
  t_PIECE : Tok
  c_PIECE : mg "PIECE" = some (.int 1000000000000000000 t_PIECE)
  t_PIECE_DIGITS : Tok
  c_PIECE_DIGITS : mg "PIECE_DIGITS" = some (.int 18 t_PIECE_DIGITS)
  t_GREATEST_WORD : Tok
  c_GREATEST_WORD : mg "GREATEST_WORD" = some (.int 4294967295 t_GREATEST_WORD)
  t_DIGITS : Tok
  c_DIGITS : mg "DIGITS" = some (.str "0123456789" t_DIGITS)
  t_LONGEST_DECIMAL : Tok
  c_LONGEST_DECIMAL : mg "LONGEST_DECIMAL" = some (.int 10 t_LONGEST_DECIMAL)
  t_LETTERS : Tok
  c_LETTERS : mg "LETTERS" = some (.str "abcdefghijklmnopqrstuvwxyzABCDEFGHIJKLMNOPQRSTUVWXYZ" t_LETTERS)
  p_SIGNS : Addr
  c_SIGNS : mg "SIGNS" = some (.ref p_SIGNS)
  l_SIGNS : ∃ o, K.lookup p_SIGNS = some o ∧ o.cls = .type "tuple" ∧ o.dict = none
  q_SIGNS : ∀ H, SqT K H p_SIGNS [.str "~<=", .str ":=", .str "<<", .str ">>", .str "<=", .str "~<", .str "==", .str "!=", .str ",", .str ";", .str ".", .str "(", .str ")", .str "[", .str "]", .str "+", .str "-", .str "*", .str "/", .str "&", .str "|", .str "^", .str "~", .str "!", .str "<"]
  t_HEX_DIGITS : Tok
  c_HEX_DIGITS : mg "HEX_DIGITS" = some (.str "0123456789abcdef" t_HEX_DIGITS)
  t_LONGEST_HEX : Tok
  c_LONGEST_HEX : mg "LONGEST_HEX" = some (.int 8 t_LONGEST_HEX)
  p_RESERVED : Addr
  c_RESERVED : mg "RESERVED" = some (.ref p_RESERVED)
  l_RESERVED : ∃ o, K.lookup p_RESERVED = some o ∧ o.cls = .type "tuple" ∧ o.dict = none
  q_RESERVED : ∀ H, SqT K H p_RESERVED [.str "system", .str "in", .str "out", .str "object", .str "cell", .str "operation", .str "give", .str "end", .str "task", .str "every", .str "within", .str "if", .str "else", .str "loop", .str "to", .str "while", .str "read", .str "write", .str "interrupt", .str "calls", .str "mod", .str "and", .str "or"]
  t_LONGEST_NAME : Tok
  c_LONGEST_NAME : mg "LONGEST_NAME" = some (.int 16 t_LONGEST_NAME)
/-- the state of the law's draws: the list at p, the cells' list at c -/
def StOk (H : Hp) (p c : Addr) : Prop := ∃ (ms : List Int) (sd : Int), p ≠ c ∧ H p = some (.lst [.ref c, .int sd]) ∧ H c = some (.lst (ms.map V.int)) ∧ ms.length ≤ 63 ∧ (∀ m ∈ ms, 0 ≤ m) ∧ 0 ≤ sd ∧ sd ≤ 2147483647
/-- all but the state is as it was -/
def Keep (p c : Addr) (H H' : Hp) : Prop := ∀ b o, b ≠ p → b ≠ c → H b = some o → H' b = some o
theorem Keep.refl (p c : Addr) (H : Hp) : Keep p c H H := fun _ _ _ _ h => h
theorem Keep.trans {p c : Addr} {H H1 H2 : Hp} (a : Keep p c H H1) (b : Keep p c H1 H2) : Keep p c H H2 := fun x o h1 h2 h => b x o h1 h2 (a x o h1 h2 h)
theorem Keep.same {p c : Addr} {H H1 : Hp} (a : Same H H1) : Keep p c H H1 := fun x o _ _ h => a x o h
theorem Keep.atp {p c : Addr} {H : Hp} {o : HO} : Keep p c H (upd H p o) := fun x u h1 _ h => by
  rw [upd_ne h1]
  exact h
theorem Keep.atc {p c : Addr} {H : Hp} {o : HO} : Keep p c H (upd H c o) := fun x u _ h2 h => by
  rw [upd_ne h2]
  exact h
theorem StOk.same {H H' : Hp} {p c : Addr} (s : StOk H p c) (e : Same H H') : StOk H' p c := by
  obtain ⟨ms, sd, h1, h2, h3, h⟩ := s
  exact ⟨ms, sd, h1, e _ _ h2, e _ _ h3, h⟩
/-- an address that is free behind was free before -/
theorem Keep.free {p c : Addr} {H H' : Hp} (k : Keep p c H H') (s : StOk H' p c) {l : Addr} (h : H' l = Option.none) : H l = Option.none := by
  obtain ⟨ms, sd, h1, h2, h3, _⟩ := s
  cases e : H l with
  | none => rfl
  | some o =>
    have np : l ≠ p := fun z => by rw [z, h2] at h; cases h
    have nc : l ≠ c := fun z => by rw [z, h3] at h; cases h
    rw [k l o np nc e] at h
    cases h
theorem StOk.ne {H : Hp} {p c l : Addr} (s : StOk H p c) (h : H l = Option.none) : l ≠ p ∧ l ≠ c := by
  obtain ⟨ms, sd, h1, h2, h3, _⟩ := s
  exact ⟨fun z => (by rw [z, h2] at h; cases h), fun z => (by rw [z, h3] at h; cases h)⟩
section
variable {P : Program} {w : World} {K : PySem.W.Frag} {mg : Str → Option Value} {base : Heap}
def sp__law_state (K : PySem.W.Frag) : Sp := fun vs H Q _ => ∃ (a : Addr) (ns : List Int), vs = [.ref a] ∧ SqL K H a (ns.map V.int) ∧ ns.length ≤ 63 ∧ ∀ (H' : Hp) (p c : Addr), Same H H' → H p = none → H c = none → StOk H' p c → Q (.ref p) H'
theorem abs_nn (n : Int) : 0 ≤ (if n < 0 then -n else n) := by
  split <;> omega
def absI (n : Int) : Int := if n < 0 then -n else n
theorem ok__law_state (T : Top K mg) : FnOk P w K mg base CX0 1 T.a__law_state T.d__law_state ["script"]  (sp__law_state K) := by
  refine T.F__law_state.ok sc__law_state (fun vs H Q E h => ?_) (fun cdv A outer s H vs Q E hr h => ?_)
  · obtain ⟨_, _, rfl, _⟩ := h
    rfl
  · obtain ⟨a, ns, rfl, hS, hlen, q⟩ := h
    refine ⟨_, (pss_cons (ps_set (i := 1) sc__law_state.nd rfl (by first | exact Or.inl rfl | exact Or.inr rfl) pe_int)
  (pss_cons (ps_for PassesOwn.never rfl (pi_list (pv 0)) (pg_name (i := 2) sc__law_state.nd rfl (by first | exact Or.inl rfl | exact Or.inr rfl))
  (pss_one (ps_set (i := 1) sc__law_state.nd rfl (by first | exact Or.inl rfl | exact Or.inr rfl) (pe_op op_mod (pe_callTy call_int1 (by rfl) T.m_int (by decide +kernel) (pa_cons (pe_op op_add (pe_op op_mul (pv 1) pe_int) (pv 2)) pa_nil)) pe_int))))
  (pss_one (ps_ret (pe_lst (pa_cons (pe_lc (own := [("cell", 2)]) (g := gName 2) (tt := tYes) rfl sc__law_state.nd (pi_list (pv 0)) (blkOk_by (N := ["script", "seed", "cell"]) (sc := defScope s__law_state) (by decide +kernel)) (fun _ _ _ _ _ => pg_name (i := 2) sc__law_state.nd rfl (Or.inl rfl)) (fun _ _ _ _ _ => pts_nil) (fun _ _ _ _ _ => (pe_callB call_abs (by rfl) T.m_abs (by decide +kernel) (pa_cons (pv 2) pa_nil)))) (pa_cons (pe_op op_add (pv 1) pe_int) pa_nil))))))), ?_⟩
    refine ⟨_, rfl, a, rfl, ⟨_, hS⟩, for_list (xs := ns.map V.int) (fun i σ H' => ∃ sd y2, σ = [some (.ref a), some (.int sd), y2] ∧ H' = H ∧ 0 ≤ sd ∧ sd < 1000003) ⟨7, none, rfl, rfl, by decide, by decide⟩ (fun i σ H' _ ⟨_, _, _, e, _⟩ => by rw [e]; exact hS) ?_ ?_⟩
    · rintro i x σ H' hi ⟨sd, y2, rfl, rfl, h0, h1⟩
      obtain ⟨n, _, rfl⟩ := List.mem_map.mp (List.mem_of_getElem? hi)
      refine ⟨_, rfl, _, _, rfl, rfl, .inl ⟨by omega, by omega⟩, _, rfl, _, _, rfl, rfl, .inl ⟨_, rfl, _, _, rfl, rfl, (by show (0 : Int) < 1000003; decide), ?_⟩⟩
      exact ⟨_, _, rfl, rfl, Int.emod_nonneg _ (by decide), Int.emod_lt_of_pos _ (by decide)⟩
    · rintro σ H' ⟨sd, y2, rfl, rfl, h0, h1⟩
      refine ⟨_, rfl, a, rfl, ⟨_, hS⟩, fun c hc => ?_⟩
      refine lc_list (xs := ns.map V.int) (fun i H'' => H'' = upd H' c (.lst ((ns.take i).map fun n => V.int (absI n)))) rfl (fun i H'' _ e => ?_) ?_ ?_
      · rw [e]
        exact (same_new hc).seq hS
      · rintro i x H'' hi rfl
        obtain ⟨n, hn, rfl⟩ : ∃ n, ns[i]? = some n ∧ V.int n = x := by
          rw [List.getElem?_map] at hi
          cases e : ns[i]? with
          | none => rw [e] at hi; cases hi
          | some n => rw [e] at hi; exact ⟨n, rfl, Option.some.inj hi⟩
        refine ⟨rfl, ?_⟩
        refine ⟨_, rfl, _, rfl, _, upd_same, ?_, ?_⟩
        · rw [List.length_map, List.length_take]
          exact small1000 (by omega)
        · rw [upd_upd, List.take_add_one, hn, List.map_append]
          rfl
      · rintro H'' rfl
        rw [List.length_map, List.take_length]
        refine ⟨_, rfl, _, _, rfl, rfl, (by show 2 ≤ sizeLine; decide), fun p hp => ?_⟩
        have npc : p ≠ c := fun z => by rw [z, upd_same] at hp; cases hp
        refine q _ p c ((same_new hc).trans (same_new hp)) ((same_new hc).free hp) hc ⟨ns.map absI, sd + 1, npc, upd_same, ?_, ?_, ?_, by omega, by omega⟩
        · rw [upd_ne npc.symm, upd_same, List.map_map]
          rfl
        · rw [List.length_map]
          exact hlen
        · intro m hm
          obtain ⟨n, _, rfl⟩ := List.mem_map.mp hm
          exact abs_nn n
theorem ix0 {n : Nat} (h : 0 < n) : ixN n 0 = some 0 := by
  unfold ixN
  rw [if_pos (by decide), if_pos (by omega)]
  rfl
theorem seq0 {n : Nat} (h : 0 < n) : seqIndex? 0 n = some 0 := by
  unfold seqIndex?
  simp
  omega
def sp__law_draw : Sp := fun vs H Q _ => ∃ (p c : Addr) (many : Int), vs = [.ref p, .int many] ∧ StOk H p c ∧ 0 < many ∧ many ≤ 1000000 ∧ ∀ (v : Int) (H' : Hp), 0 ≤ v → v < many → StOk H' p c → Keep p c H H' → Q (.int v) H'
theorem ok__law_draw (T : Top K mg) : FnOk P w K mg base CX0 1 T.a__law_draw T.d__law_draw ["state", "many"]  sp__law_draw := by
  refine T.F__law_draw.ok sc__law_draw (fun vs H Q E h => ?_) (fun cdv A outer s H vs Q E hr h => ?_)
  · obtain ⟨_, _, _, rfl, _⟩ := h
    rfl
  · obtain ⟨p, c, many, rfl, hst, hm0, hm1, q⟩ := h
    obtain ⟨ms, sd, npc, hp, hc, hl, hn, s0, s1⟩ := hst
    refine ⟨_, (pss_cons (ps_set (i := 2) sc__law_draw.nd rfl (by first | exact Or.inl rfl | exact Or.inr rfl) (pe_ix ix_list (pv 0) pe_int (fun _ _ => rfl)))
  (pss_cons (ps_while PassesOwn.never (pw_and (pt_cmpR op_gt (pe_callB call_len_seq (by rfl) T.m_len PySem.boot_len (pa_cons (pv 2) pa_nil)) pe_int (nomark _)) (pw_and1 (pt_cmpR op_eq (pe_ix ix_list (pv 2) pe_int (fun _ _ => rfl)) pe_int (nomark _)))).pt
  (pss_one (ps_expr (pe_bm PySem.F.plainAttrs_list PySem.F.slot_list_pop PySem.F.type_list_pop mt_popAt (pv 2) (pa_cons pe_int pa_nil)))))
  (pss_cons (ps_if (pt_cmpR op_gt (pe_callB call_len_seq (by rfl) T.m_len PySem.boot_len (pa_cons (pv 2) pa_nil)) pe_int (nomark _))
  (pss_cons (ps_set (i := 3) sc__law_draw.nd rfl (by first | exact Or.inl rfl | exact Or.inr rfl) (pe_ix ix_list (pv 2) pe_int (fun _ _ => rfl)))
  (pss_cons (ps_asg (pe_op op_fdiv (pv 3) (pv 1)) (pg_sub (pv 2) pe_int set_list))
  (pss_one (ps_ret (pe_op op_mod (pe_callTy call_int1 (by rfl) T.m_int (by decide +kernel) (pa_cons (pv 3) pa_nil)) (pv 1))))))
  pss_nil)
  (pss_cons (ps_set (i := 4) sc__law_draw.nd rfl (by first | exact Or.inl rfl | exact Or.inr rfl) (pe_op op_mod (pe_callTy call_int1 (by rfl) T.m_int (by decide +kernel) (pa_cons (pe_op op_add (pe_op op_mul (pe_ix ix_list (pv 0) pe_int (fun _ _ => rfl)) pe_int) pe_int) pa_nil)) pe_int))
  (pss_cons (ps_asg (pv 4) (pg_sub (pv 0) pe_int set_list))
  (pss_one (ps_ret (pe_op op_mod (pe_callTy call_int1 (by rfl) T.m_int (by decide +kernel) (pa_cons (pe_op op_fdiv (pv 4) pe_int) pa_nil)) (pv 1))))))))), ?_⟩
    refine ⟨_, rfl, p, _, 0, .ref c, rfl, rfl, SqL.of hp, atI_nat (j := 0) rfl, ?_⟩
    -- the noughts ahead are dropped
    refine ⟨fun m σ H' => ∃ ms' : List Int, m = ms'.length ∧ σ = [some (.ref p), some (.int many), some (.ref c), none, none] ∧ H' = upd H c (.lst (ms'.map V.int)) ∧ ms'.length ≤ 63 ∧ ∀ x ∈ ms', 0 ≤ x,
      ⟨ms.length, ms, rfl, rfl, (upd_self hc).symm, hl, hn⟩, ?_⟩
    rintro m σ H' ⟨ms', rfl, rfl, rfl, hl', hn'⟩
    have hc' : (upd H c (.lst (ms'.map V.int))) c = some (.lst (ms'.map V.int)) := upd_same
    have hp' : (upd H c (.lst (ms'.map V.int))) p = some (.lst [.ref c, .int sd]) := by rw [upd_ne npc]; exact hp
    refine ⟨_, rfl, c, _, rfl, .inl (SqL.of hc'), _, _, rfl, rfl, _, rfl, ?_⟩
    have fin : ∀ (x : Int) (ms2 : List Int) (H2 : Hp), 0 ≤ x → ms2.length ≤ 63 → (∀ y ∈ ms2, 0 ≤ y) → H2 = upd H c (.lst (ms2.map V.int)) → Q (.int (x % many)) H2 := fun x ms2 H2 hx hl2 hn2 e => by
      rw [e]
      exact q _ _ (Int.emod_nonneg _ (by omega)) (Int.emod_lt_of_pos _ hm0) ⟨ms2, sd, npc, by rw [upd_ne npc]; exact hp, upd_same, hl2, hn2, s0, s1⟩ Keep.atc
    cases ms' with
    | nil =>
      refine iteF (iteF ?_)
      refine ⟨_, rfl, c, _, rfl, .inl (SqL.of hc'), _, _, rfl, rfl, _, rfl, iteF ?_⟩
      refine ⟨_, rfl, p, _, 1, .int sd, rfl, rfl, SqL.of hp', atI_nat (j := 1) rfl, _, _, rfl, rfl, .inl ⟨by omega, by omega⟩, _, _, rfl, rfl, .inl ⟨_, rfl, _, _, rfl, rfl, (by show (0 : Int) < 2147483647; decide), ?_⟩⟩
      refine ⟨_, rfl, _, rfl, p, _, 1, 1, rfl, rfl, hp', rfl, ?_⟩
      refine ⟨_, rfl, _, _, rfl, rfl, ⟨by decide, by decide⟩, .inl ⟨_, rfl, _, rfl, _, _, rfl, rfl, hm0, ?_⟩⟩
      have m0 := Int.emod_nonneg (sd * 48271 + 12345) (show (2147483647 : Int) ≠ 0 by decide)
      have m1 := Int.emod_lt_of_pos (sd * 48271 + 12345) (show (0 : Int) < 2147483647 by decide)
      refine q _ _ (Int.emod_nonneg _ (by omega)) (Int.emod_lt_of_pos _ hm0) ⟨[], (sd * 48271 + 12345) % 2147483647, npc, upd_same, ?_, by decide, by simp, m0, by omega⟩ (Keep.atc.trans Keep.atp)
      rw [upd_ne npc.symm]
      exact upd_same
    | cons y r =>
      have hlen : (0 : Int) < ((y :: r).map V.int).length := by rw [List.length_map, List.length_cons]; omega
      rw [decide_eq_true hlen]
      refine iteT ⟨_, rfl, c, _, 0, .int y, rfl, rfl, SqL.of hc', atI_nat (j := 0) rfl, rfl, _, rfl, ite2 (fun cc => ?_) (fun cc => ?_)⟩
      · -- a nought is dropped
        refine ⟨_, fun _ _ z => z, ?_⟩
        refine ⟨_, rfl, .inl ⟨rfl, _, SqL.of hc'⟩, c, _, 0, 0, .int y, rfl, rfl, hc', by decide, by decide, seq0 (by simp), rfl, ?_⟩
        refine ⟨r.length, by simp, r, rfl, rfl, by rw [upd_upd]; rfl, by simp at hl'; omega, fun x hx => hn' x (List.mem_cons_of_mem _ hx)⟩
      · -- the first cell is drawn from
        have y0 := hn' y List.mem_cons_self
        refine ⟨_, rfl, c, _, rfl, .inl (SqL.of hc'), _, _, rfl, rfl, _, rfl, ?_⟩
        rw [decide_eq_true hlen]
        refine iteT ⟨_, rfl, c, _, 0, .int y, rfl, rfl, SqL.of hc', atI_nat (j := 0) rfl, ?_⟩
        refine ⟨_, rfl, _, rfl, _, _, rfl, rfl, ⟨hm0, by omega⟩, ?_⟩
        refine ⟨_, rfl, c, _, 0, 0, rfl, rfl, hc', ix0 (by simp), ?_⟩
        refine ⟨_, rfl, .inl ⟨_, rfl, _, rfl, _, _, rfl, rfl, hm0, ?_⟩⟩
        refine fin y (y / many :: r) _ y0 (by simpa using hl') (fun x hx => ?_) (by rw [upd_upd]; rfl)
        rcases List.mem_cons.mp hx with rfl | hx
        · exact Int.ediv_nonneg y0 (by omega)
        · exact hn' x (List.mem_cons_of_mem _ hx)
end

/-! ### texts as lists of signs -/
abbrev S := SX.S
theorem S_cps (l : List Nat) : (S l).cps.toList = l := rfl
theorem occ1_fst (s sub : Str) (hi : Nat) : ∀ (l : List Nat) (st : Array Nat × Nat), 1 ≤ st.1.size → (forIn l st (PySem.StrLaws.occBody s sub hi 1)).run.fst = st.1
  | [], st, _ => rfl
  | a :: l, st, h => by
    rw [List.forIn_cons]
    unfold PySem.StrLaws.occBody
    rw [if_neg (by omega)]
    exact occ1_fst s sub hi l st h
theorem occ1_list (s sub : Str) (hi : Nat) : ∀ (l : List Nat) (free : Nat), (∀ i ∈ l, free ≤ i) →
    (forIn l ((#[] : Array Nat), free) (PySem.StrLaws.occBody s sub hi 1)).run.fst.toList = (l.find? fun i => decide (i + sub.length ≤ hi) && Builtin.Str.subAt s sub i).toList
  | [], free, _ => rfl
  | a :: l, free, hf => by
    have ha : free ≤ a := hf a List.mem_cons_self
    rw [List.forIn_cons]
    by_cases hc : a + sub.length ≤ hi ∧ Builtin.Str.subAt s sub a = true
    · have e : (decide (a + sub.length ≤ hi) && Builtin.Str.subAt s sub a) = true := by rw [decide_eq_true hc.1, hc.2]; rfl
      rw [List.find?_cons_of_pos (p := fun i => decide (i + sub.length ≤ hi) && Builtin.Str.subAt s sub i) e]
      unfold PySem.StrLaws.occBody
      rw [if_pos ⟨⟨⟨by show (#[] : Array Nat).size < 1; decide, ha⟩, hc.1⟩, hc.2⟩]
      have h1 := occ1_fst s sub hi l ((#[] : Array Nat).push a, a + sub.length) (by simp)
      exact congrArg Array.toList h1
    · have e : ¬ (decide (a + sub.length ≤ hi) && Builtin.Str.subAt s sub a) = true := by
        rw [Bool.and_eq_true, decide_eq_true_eq]
        exact hc
      rw [List.find?_cons_of_neg (p := fun i => decide (i + sub.length ≤ hi) && Builtin.Str.subAt s sub i) e]
      unfold PySem.StrLaws.occBody
      rw [if_neg (fun h => hc ⟨h.1.2, h.2⟩)]
      exact occ1_list s sub hi l free fun i hi' => hf i (List.mem_cons_of_mem _ hi')
theorem occ1 (s sub : Str) (lo hi : Nat) : Builtin.Str.occurrences s sub lo hi 1 = ((List.range' lo (hi + 1 - lo)).find? fun i => decide (i + sub.length ≤ hi) && Builtin.Str.subAt s sub i).toList := by
  rw [PySem.StrLaws.occ_eq]
  exact occ1_list s sub hi _ lo fun i hi' => (List.mem_range'_1.mp hi').1
theorem fromIx {n i : Nat} : fromIndex n (i : Int) = i := by
  unfold fromIndex
  rw [if_neg (by omega)]
  omega
/-- the first signs of l are those of s -/
def hd (s l : List Nat) : Bool := l.take s.length == s
theorem starts3 (l s : List Nat) (i : Nat) (hi : i ≤ l.length) : Txt.startswith3 (S l) (S s) (i : Int) = hd s (l.drop i) := by
  unfold Txt.startswith3
  rw [fromIx, PySem.StrLaws.subAt_eq, SX.S_len, SX.S_len]
  show (decide (i + s.length ≤ l.length) && ((l.drop i).take s.length == s)) = ((l.drop i).take s.length == s)
  by_cases h : ((l.drop i).take s.length == s) = true
  · rw [h]
    have e := congrArg List.length (beq_iff_eq.mp h)
    rw [List.length_take, List.length_drop] at e
    rw [decide_eq_true (show i + s.length ≤ l.length by omega)]
    rfl
  · rw [Bool.not_eq_true] at h
    rw [h, Bool.and_false]
/-- where the line ends that i stands in -/
def lineEnd (l : List Nat) (i : Nat) : Nat := i + ((l.drop i).takeWhile (· != 10)).length

theorem tw_split (p : Nat → Bool) : ∀ l : List Nat, l.takeWhile p ++ l.dropWhile p = l := fun l => List.takeWhile_append_dropWhile
theorem tw_len (p : Nat → Bool) (l : List Nat) : (l.takeWhile p).length ≤ l.length := by
  have := congrArg List.length (tw_split p l)
  rw [List.length_append] at this
  omega
theorem dw_head {p : Nat → Bool} {l r : List Nat} {c : Nat} (h : l.dropWhile p = c :: r) : p c = false := by
  have := List.head?_dropWhile_not p l
  rw [h] at this
  simpa using this
theorem tw_all {p : Nat → Bool} {l : List Nat} {c : Nat} (h : c ∈ l.takeWhile p) : p c = true := by
  induction l with
  | nil => cases h
  | cons a r ih =>
    rw [List.takeWhile_cons] at h
    split at h
    · rename_i ha
      rcases List.mem_cons.mp h with rfl | h
      · exact ha
      · exact ih h
    · cases h
theorem drop_tw (p : Nat → Bool) (l : List Nat) : l.drop (l.takeWhile p).length = l.dropWhile p := by
  have h := tw_split p l
  have e : (l.takeWhile p ++ l.dropWhile p).drop (l.takeWhile p).length = l.dropWhile p := List.drop_left
  rw [h] at e
  exact e
theorem sub1 (l : List Nat) (c i : Nat) : Builtin.Str.subAt (S l) (S [c]) i = (l[i]? == some c) := by
  rw [PySem.StrLaws.subAt_eq, SX.S_len]
  show ((l.drop i).take 1 == [c]) = _
  rw [← List.head?_drop]
  cases l.drop i with
  | nil => rfl
  | cons a r =>
    show ([a] == [c]) = (some a == some c)
    by_cases h : a = c
    · rw [h, beq_self_eq_true, beq_self_eq_true]
    · rw [beq_eq_false_iff_ne.mpr (fun z => h (by injection z)), beq_eq_false_iff_ne.mpr (fun z => h (by injection z))]
/-- where find finds a newline, or -1; either way the line's end comes out of it -/
theorem find_line (l : List Nat) (i : Nat) (hi : i ≤ l.length) : (Txt.find3 (S l) (S [10]) (i : Int) = (lineEnd l i : Int) ∧ lineEnd l i < l.length) ∨ (Txt.find3 (S l) (S [10]) (i : Int) = -1 ∧ lineEnd l i = l.length) := by
  have hs := tw_split (· != 10) (l.drop i)
  have hlen := congrArg List.length hs
  rw [List.length_append, List.length_drop] at hlen
  have e1 : Txt.find3 (S l) (S [10]) (i : Int) = match ((List.range' i (l.length + 1 - i)).find? fun j => decide (j + 1 ≤ l.length) && (l[j]? == some 10)).toList with | k :: _ => (k : Int) | [] => -1 := by
    unfold Txt.find3
    rw [fromIx, occ1]
    have e2 : (fun j => decide (j + (S [10]).length ≤ (S l).length) && Builtin.Str.subAt (S l) (S [10]) j) = fun j => decide (j + 1 ≤ l.length) && (l[j]? == some 10) := by
      funext j
      rw [sub1, SX.S_len]
      rfl
    rw [e2, SX.S_len]
    generalize (List.find? (fun j => decide (j + 1 ≤ l.length) && l[j]? == some 10) (List.range' i (l.length + 1 - i))).toList = L
    cases L <;> rfl
  rw [e1]
  have before : ∀ j, i ≤ j → j < lineEnd l i → l[j]? ≠ some 10 := by
    intro j h1 h2 h3
    have h4 : ((l.drop i).takeWhile (· != 10))[j - i]? = some 10 := by
      have h5 : (l.drop i)[j - i]? = some 10 := by
        rw [List.getElem?_drop, show i + (j - i) = j by omega]
        exact h3
      rw [← hs, List.getElem?_append_left (by unfold lineEnd at h2; omega)] at h5
      exact h5
    have := tw_all (p := (· != 10)) (List.mem_of_getElem? h4)
    simp at this
  cases hd : (l.drop i).dropWhile (· != 10) with
  | nil =>
    rw [hd] at hlen
    have he : lineEnd l i = l.length := by unfold lineEnd; simp at hlen; omega
    refine .inr ⟨?_, he⟩
    have hn : (List.range' i (l.length + 1 - i)).find? (fun j => decide (j + 1 ≤ l.length) && (l[j]? == some 10)) = none := by
      rw [List.find?_eq_none]
      intro j hj hh
      rw [Bool.and_eq_true, decide_eq_true_eq, beq_iff_eq] at hh
      exact before j (List.mem_range'_1.mp hj).1 (by omega) hh.2
    rw [hn]
    rfl
  | cons c r =>
    have hc := dw_head hd
    have c10 : c = 10 := by simpa using hc
    subst c10
    rw [hd] at hlen
    have he : lineEnd l i < l.length := by unfold lineEnd; simp at hlen; omega
    refine .inl ⟨?_, he⟩
    have at10 : l[lineEnd l i]? = some 10 := by
      have h5 : (l.drop i)[((l.drop i).takeWhile (· != 10)).length]? = some 10 := by
        conv => lhs; rw [← hs]
        rw [List.takeWhile_append_dropWhile]
        have e6 := drop_tw (· != 10) (l.drop i)
        rw [hd] at e6
        rw [← List.head?_drop, e6]
        rfl
      rw [List.getElem?_drop] at h5
      exact h5
    have hn : (List.range' i (l.length + 1 - i)).find? (fun j => decide (j + 1 ≤ l.length) && (l[j]? == some 10)) = some (lineEnd l i) := by
      rw [List.find?_range'_eq_some]
      refine ⟨?_, ?_, ?_⟩
      · rw [at10, decide_eq_true (by omega)]
        rfl
      · rw [List.mem_range'_1]
        unfold lineEnd at he ⊢
        omega
      · intro j h1 h2
        have := before j h1 h2
        simp [this]
    rw [hn]
    rfl

/-! ### the signs -/
def LET : Str := "abcdefghijklmnopqrstuvwxyzABCDEFGHIJKLMNOPQRSTUVWXYZ"
def DIG : Str := "0123456789"
def HEX : Str := "0123456789abcdef"
def SIGV : List Str := ["~<=", ":=", "<<", ">>", "<=", "~<", "==", "!=", ",", ";", ".", "(", ")", "[", "]", "+", "-", "*", "/", "&", "|", "^", "~", "!", "<"]
def RESV : List Str := ["system", "in", "out", "object", "cell", "operation", "give", "end", "task", "every", "within", "if", "else", "loop", "to", "while", "read", "write", "interrupt", "calls", "mod", "and", "or"]
def isLet (c : Nat) : Bool := decide (c ∈ LET.cps.toList)
def isDig (c : Nat) : Bool := decide (c ∈ DIG.cps.toList)
def isHx (c : Nat) : Bool := decide (c ∈ HEX.cps.toList)
def inRun (c : Nat) : Bool := isLet c || (isDig c || decide (c = 95))
def hexOf (d : List Nat) : Option Int := if d = [] then none else if 8 < d.length then none else if d.all isHx = false then none else some (Hx.hexNum d : Nat)
def numOf (r : List Nat) : Option Int :=
  if hd [48, 120] r = true then hexOf (r.drop 2) else if 10 < r.length then none else if r.all isDig = false then none
  else if r.head? = some 48 ∧ r ≠ [48] then none else if 4294967295 < ((PySem.NumText.digitsVal r : Nat) : Int) then none else some (PySem.NumText.digitsVal r : Nat)
def isRes (l : List Nat) : Bool := inV (.str (S l)) (RESV.map V.str)
/-- the token of a run: its kind, its value -/
def runTok (r : List Nat) : Option (Str × V) :=
  match r with
  | [] => none
  | c :: _ => if isDig c = true then (numOf r).map fun n => ("number", .int n) else if 16 < r.length then none else if isRes r = true then some ("word", .str (S r)) else some ("name", .str (S r))
def signOf (l : List Nat) : Option Str := SIGV.find? fun s => hd s.cps.toList l
theorem starts0 (l s : List Nat) : Txt.startswith (S l) (S s) = hd s l := by
  have h := starts3 l s 0 (Nat.zero_le _)
  rw [List.drop_zero] at h
  rw [← h]
  rfl
theorem str_of (z : Str) : z = S z.cps.toList := (SX.S_tl z).symm
theorem sgn_eq {c d : Nat} : decide (V.str ⟨#[c]⟩ = V.str ⟨#[d]⟩) = decide (c = d) := by
  by_cases h : c = d
  · rw [h, decide_eq_true rfl, decide_eq_true rfl]
  · rw [decide_eq_false h, decide_eq_false (fun q => h ?_)]
    have e := V.str.inj q
    have e2 := congrArg (fun x : Str => x.cps.toList) e
    exact (List.cons.inj e2).1
theorem cut_mid (l : List Nat) (i j : Nat) (hi : i ≤ l.length) (hj : j ≤ l.length) : cutS (S l) (some (i : Int)) (some (j : Int)) = S ((l.drop i).take (j - i)) := by
  unfold cutS
  rw [SX.S_len, HT.sIx_nat, HT.sIx_nat, Nat.min_eq_left hi, Nat.min_eq_left hj]
theorem cut_from (l : List Nat) (i : Nat) (hi : i ≤ l.length) : cutS (S l) (some (i : Int)) none = S (l.drop i) := by
  unfold cutS
  rw [SX.S_len, HT.sIx_nat, HT.sIx_none, Nat.min_eq_left hi]
  show (⟨((l.drop i).take (l.length - i)).toArray⟩ : Str) = _
  rw [List.take_of_length_le (by rw [List.length_drop]; exact Nat.le_refl _)]
theorem tw_at {p : Nat → Bool} {l : List Nat} {n : Nat} (h : n < (l.takeWhile p).length) : ∃ c, l[n]? = some c ∧ p c = true := by
  have hs := tw_split p l
  refine ⟨(l.takeWhile p)[n], ?_, tw_all (List.getElem_mem h)⟩
  conv => lhs; rw [← hs]
  rw [List.getElem?_append_left h]
  exact List.getElem?_eq_getElem h
theorem tw_stop {p : Nat → Bool} {l : List Nat} {c : Nat} (h : l[(l.takeWhile p).length]? = some c) : p c = false := by
  rw [← List.head?_drop, drop_tw] at h
  cases e : l.dropWhile p with
  | nil => rw [e] at h; cases h
  | cons a r =>
    rw [e] at h
    cases h
    exact dw_head e
section
variable {P : Program} {w : World} {K : PySem.W.Frag} {mg : Str → Option Value} {base : Heap}
def sp__in_run : Sp := fun vs H Q _ => ∃ c : Nat, vs = [.str ⟨#[c]⟩] ∧ Q (.bl (inRun c)) H
theorem ok__in_run (T : Top K mg) : FnOk P w K mg base CX0 1 T.a__in_run T.d__in_run ["character"]  sp__in_run := by
  refine T.F__in_run.ok sc__in_run (fun vs H Q E h => ?_) (fun cdv A outer s H vs Q E hr h => ?_)
  · obtain ⟨_, rfl, _⟩ := h
    rfl
  · obtain ⟨c, rfl, q⟩ := h
    refine ⟨_, (pss_one (ps_ret (pe_or (pe_cmpR op_in_sign (pv 0) (pe_gs (by rfl) T.c_LETTERS) (by with_unfolding_all rfl)) (pe_or (pe_cmpR op_in_sign (pv 0) (pe_gs (by rfl) T.c_DIGITS) (by with_unfolding_all rfl)) (pe_one (pe_cmpR op_eq (pv 0) pe_str (nomark _))))))), ?_⟩
    refine ⟨_, rfl, c, LET, rfl, rfl, _, rfl, ?_⟩
    unfold inRun at q
    show if isLet c = true then _ else _
    cases h1 : isLet c with
    | true =>
      rw [h1] at q
      exact iteT q
    | false =>
      rw [h1] at q
      refine iteF ⟨_, rfl, c, DIG, rfl, rfl, _, rfl, ?_⟩
      show if isDig c = true then _ else _
      cases h2 : isDig c with
      | true =>
        rw [h2] at q
        exact iteT q
      | false =>
        rw [h2] at q
        refine iteF ⟨_, rfl, rfl, ?_⟩
        have e := sgn_eq (c := c) (d := 95)
        exact e ▸ q
def sp__run : Sp := fun vs H Q _ => ∃ (l : List Nat) (i : Nat), vs = [.str (S l), .int (i : Int)] ∧ i ≤ l.length ∧ l.length ≤ 100000 ∧ Q (.str (S ((l.drop i).takeWhile inRun))) H
theorem ok__run (T : Top K mg) : FnOk P w K mg base CX0 2 T.a__run T.d__run ["text", "at"]  sp__run := by
  refine T.F__run.ok sc__run (fun vs H Q E h => ?_) (fun cdv A outer s H vs Q E hr h => ?_)
  · obtain ⟨_, _, rfl, _⟩ := h
    rfl
  · obtain ⟨l, i, rfl, hi, hl, q⟩ := h
    have hz : (S l).length ≤ sizeLine := by rw [SX.S_len]; exact Nat.le_trans hl (by decide)
    refine ⟨_, (pss_cons (ps_set (i := 2) sc__run.nd rfl (by first | exact Or.inl rfl | exact Or.inr rfl) (pv 1))
  (pss_cons (ps_while PassesOwn.never (pw_and (pt_cmpR op_lt (pv 2) (pe_callB call_len_str (by rfl) T.m_len PySem.boot_len (pa_cons (pv 0) pa_nil)) (nomark _)) (pw_and1 (pt_val (pe_call (ok__in_run T) (hr.mono (by decide)) (by rfl) T.g__in_run T.F__in_run.kp T.b__in_run .nil pass0 (pa_cons (pe_ix ix_str (pv 0) (pv 2) (fun _ _ => rfl)) pa_nil))))).pt
  (pss_one (ps_aug (i := 2) sc__run.nd rfl (by first | exact Or.inl rfl | exact Or.inr rfl) pe_int ip_add)))
  (pss_one (ps_ret (pe_slice sl_str (pv 0) (po_some (pv 1)) (po_some (pv 2))))))), ?_⟩
    refine ⟨_, rfl, ?_⟩
    have ht := tw_len inRun (l.drop i)
    rw [List.length_drop] at ht
    refine ⟨fun m σ H' => ∃ n, m = ((l.drop i).takeWhile inRun).length - n ∧ n ≤ ((l.drop i).takeWhile inRun).length ∧ σ = [some (.str (S l)), some (.int (i : Int)), some (.int ((i + n : Nat) : Int))] ∧ H' = H, ⟨_, 0, rfl, Nat.zero_le _, rfl, rfl⟩, ?_⟩
    rintro m σ H' ⟨n, rfl, hn, rfl, rfl⟩
    refine ⟨_, rfl, _, rfl, _, rfl, hz, _, _, rfl, rfl, _, rfl, ?_⟩
    have stop : n = ((l.drop i).takeWhile inRun).length → (tRet (tSl rSlS (tVar 0) (tPart (tVar 1)) (tPart (tVar 2)))) { nx := fun _ H' => Q .non H', rt := Q } [some (.str (S l)), some (.int (i : Int)), some (.int ((i + n : Nat) : Int))] H' := fun e => by
      refine ⟨_, rfl, _, rfl, _, rfl, _, rfl, _, rfl, _, rfl, hz, ?_⟩
      rw [cut_mid l i (i + n) hi (by omega), show i + n - i = n by omega, e]
      have e2 : (l.drop i).take ((l.drop i).takeWhile inRun).length = (l.drop i).takeWhile inRun := by
        conv => lhs; rhs; rw [← tw_split inRun (l.drop i)]
        exact List.take_left
      rw [e2]
      exact q
    rw [SX.S_len]
    by_cases hlt : i + n < l.length
    · rw [decide_eq_true (by omega)]
      obtain ⟨c, hc⟩ : ∃ c, l[i + n]? = some c := ⟨l[i + n], List.getElem?_eq_getElem hlt⟩
      have hc' : (l.drop i)[n]? = some c := by rw [List.getElem?_drop]; exact hc
      refine iteT ⟨_, rfl, _, rfl, S l, _, c, rfl, rfl, hz, atI_nat hc, c, rfl, inRun c, rfl, ?_⟩
      by_cases hn2 : n < ((l.drop i).takeWhile inRun).length
      · obtain ⟨c2, h2, h3⟩ := tw_at hn2
        have e : c2 = c := Option.some.inj (h2.symm.trans hc')
        subst e
        rw [h3]
        refine iteT ⟨_, fun _ _ z => z, ?_⟩
        exact ⟨_, rfl, _, _, rfl, rfl, _, by omega, n + 1, rfl, hn2, rfl, rfl⟩
      · have e : n = ((l.drop i).takeWhile inRun).length := by omega
        have h3 : inRun c = false := tw_stop (p := inRun) (by rw [← e]; exact hc')
        rw [h3]
        exact iteF (stop e)
    · rw [decide_eq_false (by omega)]
      exact iteF (iteF (stop (by omega)))
def sp__comment_end : Sp := fun vs H Q _ => ∃ (l : List Nat) (i : Nat), vs = [.str (S l), .int (i : Int)] ∧ i ≤ l.length ∧ l.length ≤ 100000 ∧ Q (.int (lineEnd l i : Int)) H
theorem ok__comment_end (T : Top K mg) : FnOk P w K mg base CX0 1 T.a__comment_end T.d__comment_end ["text", "at"]  sp__comment_end := by
  refine T.F__comment_end.ok sc__comment_end (fun vs H Q E h => ?_) (fun cdv A outer s H vs Q E hr h => ?_)
  · obtain ⟨_, _, rfl, _⟩ := h
    rfl
  · obtain ⟨l, i, rfl, hi, hl, q⟩ := h
    have hz : (S l).length ≤ sizeLine := by rw [SX.S_len]; exact Nat.le_trans hl (by decide)
    refine ⟨_, (pss_cons (ps_set (i := 2) sc__comment_end.nd rfl (by first | exact Or.inl rfl | exact Or.inr rfl) (pe_bm PySem.F.plainAttrs_str PySem.F.slot_str_find PySem.F.type_str_find mt_find3 (pv 0) (pa_cons pe_str (pa_cons (pv 1) pa_nil))))
  (pss_cons (ps_if (pt_cmpR op_lt (pv 2) pe_int (nomark _))
  (pss_one (ps_ret (pe_callB call_len_str (by rfl) T.m_len PySem.boot_len (pa_cons (pv 0) pa_nil))))
  pss_nil)
  (pss_one (ps_ret (pv 2))))), ?_⟩
    refine ⟨_, rfl, rfl, _, rfl, S l, S [10], (i : Int), rfl, rfl, ?_⟩
    rcases find_line l i hi with ⟨e, h2⟩ | ⟨e, h2⟩
    · rw [e]
      refine ⟨_, rfl, _, _, rfl, rfl, _, rfl, ?_⟩
      rw [decide_eq_false (by omega)]
      exact iteF ⟨_, rfl, q⟩
    · rw [e]
      refine ⟨_, rfl, _, _, rfl, rfl, _, rfl, iteT ⟨_, rfl, _, rfl, hz, ?_⟩⟩
      rw [SX.S_len, ← h2]
      exact q
end

theorem bits_lt {n : Int} (h : Builtin.Int.intBits n ≤ 1048576) : n.natAbs < 2 ^ 1048576 := by
  unfold Builtin.Int.intBits at h
  by_cases e : n = 0
  · subst e; exact Nat.pow_pos (by decide)
  · have z : (n == 0) = false := by simpa using e
    rw [z] at h
    have h2 : n.natAbs.log2 < 1048576 := h
    exact (Nat.log2_lt (by omega)).mp h2
/-! ### deadbeat.words, decimal: an integer in decimal, some digits at a time -/
theorem dec_str (m : Nat) (h : m < 1000000000000000000) : (Str.ofString (toString ((m : Nat) : Int))).length ≤ 18 := by
  rw [SX.num_S m, SX.S_len]
  exact TL.numL_len (k := 18) (by decide) (by omega)
theorem dec_log (m : Nat) (h : m < 1000000000000000000) : ((m : Int).natAbs).log2 < 1920 := by
  by_cases h0 : m = 0
  · subst h0; decide
  · have z : ((m : Int).natAbs) = m := rfl
    rw [z]
    exact Nat.lt_trans ((Nat.log2_lt h0).mpr (show m < 2 ^ 60 by omega)) (by decide)
theorem zfill_le (x : Str) (h : x.length ≤ 18) : (Txt.zfill x 18).length ≤ 18 := by
  unfold Txt.zfill
  by_cases c : (18 : Int) ≤ x.length
  · rw [if_pos c]; exact h
  · rw [if_neg c]
    unfold PySem.zfilled
    have key : ∀ c, x.cps[0]? = some c → 1 ≤ x.length := fun c hc => (Array.getElem?_eq_some_iff.mp hc).1
    split
    · rename_i hc'
      have h2 := key _ hc'
      rw [PySem.size_cat, PySem.size_padded, PySem.size_strSub x 0 1 h2, PySem.size_strSub x 1 x.length (Nat.le_refl _)]; omega
    · rename_i hc'
      have h2 := key _ hc'
      rw [PySem.size_cat, PySem.size_padded, PySem.size_strSub x 0 1 h2, PySem.size_strSub x 1 x.length (Nat.le_refl _)]; omega
    · rw [PySem.size_padded]; omega
/-- the pieces so far: some short texts, what is left of n -/
structure DecInv (n : Int) (ps : List Str) (r : Int) : Prop where
  r0 : 0 ≤ r
  pos : ps = [] ∧ r = n.natAbs ∨ 1 ≤ r ∧ 1000000000000000000 ≤ n.natAbs
  le : r.toNat * (1000000000000000000 : Nat) ^ ps.length ≤ n.natAbs
  short : ∀ p ∈ ps, p.length ≤ 18
theorem dec_count {n : Int} {ps : List Str} {r : Int} (d : DecInv n ps r) (h : n.natAbs < 2 ^ 1048576) : ps.length ≤ 20000 := by
  rcases d.pos with ⟨e, _⟩ | e
  · rw [e]; exact Nat.zero_le _
  · have h1 : 1 ≤ r.toNat := by omega
    have h2 : (2 ^ 59 : Nat) ^ ps.length ≤ n.natAbs :=
      Nat.le_trans (Nat.pow_le_pow_left (show (2 ^ 59 : Nat) ≤ 1000000000000000000 by decide) _) (Nat.le_trans (Nat.le_mul_of_pos_left _ h1) d.le)
    rw [← Nat.pow_mul] at h2
    have h3 : 59 * ps.length < 1048576 := (Nat.pow_lt_pow_iff_right (by decide : 1 < 2)).mp (Nat.lt_of_le_of_lt h2 h)
    omega
theorem sum_short {ps : List Str} (h : ∀ p ∈ ps, p.length ≤ 18) : (ps.map (·.length)).sum ≤ 18 * ps.length := by
  induction ps with
  | nil => simp
  | cons a r ih =>
    have h1 := h a (by simp)
    have h2 := ih fun p hp => h p (by simp [hp])
    simp only [List.map_cons, List.sum_cons, List.length_cons]
    omega
section
variable {P : Program} {w : World} {K : PySem.W.Frag} {mg : Str → Option Value} {base : Heap}
def sp_decimal : Sp := fun vs H Q _ => ∃ n : Int, vs = [.int n] ∧ n.natAbs < 2 ^ 1048576 ∧
  ∀ (z : Str) (H' : Hp), z.length ≤ 1000000 → (0 ≤ n → n < 1000000000000000000 → z = toString n) → Same H H' → Q (.str z) H'
theorem ok_decimal (T : Top K mg) : FnOk P w K mg base CX0 1 T.a_decimal T.d_decimal ["n"]  sp_decimal := by
  refine T.F_decimal.ok sc_decimal (fun vs H Q E h => ?_) (fun cdv A outer s H vs Q E hr h => ?_)
  · obtain ⟨_, rfl, _⟩ := h
    rfl
  · obtain ⟨n, rfl, hn, q⟩ := h
    refine ⟨_, (pss_cons (ps_set (i := 1) sc_decimal.nd rfl (by first | exact Or.inl rfl | exact Or.inr rfl) (pe_lst pa_nil))
  (pss_cons (ps_set (i := 2) sc_decimal.nd rfl (by first | exact Or.inl rfl | exact Or.inr rfl) (pe_callB call_abs (by rfl) T.m_abs (by decide +kernel) (pa_cons (pv 0) pa_nil)))
  (pss_cons (ps_while PassesOwn.never (pt_cmpR op_ge (pv 2) (pe_gi (by rfl) T.c_PIECE) (nomark _))
  (pss_cons (ps_asg (pe_callB call_divmodW (by rfl) T.m_divmod (by decide +kernel) (pa_cons (pv 2) (pa_cons (pe_gi (by rfl) T.c_PIECE) pa_nil))) (pg_tup rfl (pgs_cons (pg_name (i := 2) sc_decimal.nd rfl (by first | exact Or.inl rfl | exact Or.inr rfl)) (pgs_cons (pg_name (i := 3) sc_decimal.nd rfl (by first | exact Or.inl rfl | exact Or.inr rfl)) pgs_nil))))
  (pss_one (ps_expr (pe_bm PySem.F.plainAttrs_list PySem.F.slot_list_append PySem.F.type_list_append mt_append (pv 1) (pa_cons (pe_bm PySem.F.plainAttrs_str PySem.F.slot_str_zfill PySem.F.type_str_zfill mt_zfill (pe_callTy call_str_int (by rfl) T.m_str (by decide +kernel) (pa_cons (pv 3) pa_nil)) (pa_cons (pe_gi (by rfl) T.c_PIECE_DIGITS) pa_nil)) pa_nil))))))
  (pss_cons (ps_expr (pe_bm PySem.F.plainAttrs_list PySem.F.slot_list_append PySem.F.type_list_append mt_append (pv 1) (pa_cons (pe_callTy call_str_int (by rfl) T.m_str (by decide +kernel) (pa_cons (pv 2) pa_nil)) pa_nil)))
  (Evl.pss_cut (ps_if (pt_cmpR op_lt (pv 0) pe_int (nomark _))
  (pss_one (ps_expr (pe_bm PySem.F.plainAttrs_list PySem.F.slot_list_append PySem.F.type_list_append mt_append (pv 1) (pa_cons pe_str pa_nil))))
  pss_nil)
  (pss_one (ps_ret (pe_bm PySem.F.plainAttrs_str PySem.F.slot_str_join PySem.F.type_str_join mt_join pe_str (pa_cons (pe_revL (pv 1)) pa_nil))))))))), ?_⟩
    refine ⟨Nat.zero_le _, fun p np => ?_⟩
    refine ⟨_, rfl, n, rfl, ?_⟩
    have ea : (if n < 0 then -n else n) = ((n.natAbs : Nat) : Int) := by split <;> omega
    show gName 2 (V.int (if n < 0 then -n else n)) _ _ _
    rw [ea]
    refine while_by (fun σ H' => ∃ (ps : List Str) (r : Int) (y : Option V), σ = [some (.int n), some (.ref p), some (.int r), y] ∧ H' p = some (.lst (ps.map V.str)) ∧ Same H H' ∧ DecInv n ps r)
      (fun σ _ => match σ with | [_, _, some (.int r), _] => r.toNat | _ => 0) ⟨[], _, none, rfl, upd_same, same_new np, ⟨by omega, .inl ⟨rfl, rfl⟩, by simp, by simp⟩⟩ ?_ ?_
    rotate_left
    · intro σ H' Q1 Q2 f h
      obtain ⟨i, h1, j, h2, a, h3, h4, h5, h6⟩ := h
      exact ⟨i, h1, j, h2, a, h3, h4, h5, f _ _ h6⟩
    · rintro σ H1 ⟨ps, r, y, rfl, hp, sm, d⟩
      have hcnt := dec_count d hn
      refine ⟨_, rfl, _, _, rfl, rfl, _, rfl, ?_⟩
      by_cases c : (1000000000000000000 : Int) ≤ r
      · rw [decide_eq_true c]
        refine iteT ?_
        refine ⟨_, rfl, _, _, rfl, ⟨by decide, PyProof.noPylong_of_log2 (by decide)⟩, fun t nt => ?_⟩
        have tp : p ≠ t := ne_of_none hp nt
        obtain ⟨lo, elo⟩ : ∃ lo : Nat, r % 1000000000000000000 = (lo : Int) := ⟨(r % 1000000000000000000).toNat, by omega⟩
        have lo1 : lo < 1000000000000000000 := by omega
        rw [elo]
        refine ⟨t, _, rfl, SqT.of upd_same, rfl, _, _, rfl, _, _, rfl, rfl, ?_⟩
        have hp' : upd H1 t (.tup [.int (r / 1000000000000000000), .int (lo : Int)]) p = some (.lst (ps.map V.str)) := by rw [upd_ne tp]; exact hp
        refine ⟨_, rfl, .inl ⟨rfl, _, SqL.of hp'⟩, _, rfl, _, rfl, dec_log lo lo1, rfl, _, _, rfl, rfl, rfl, p, _, _, rfl, rfl, hp', ?_, ?_⟩
        · rw [List.length_map, sizeLine_eq]; omega
        have z1 := zfill_le _ (dec_str lo lo1)
        refine ⟨⟨ps ++ [Txt.zfill (Str.ofString (toString ((lo : Nat) : Int))) 18], _, _, rfl, by rw [upd_same, List.map_append]; rfl, (sm.off (sm.free nt)).off np, ?_⟩, ?_⟩
        · have big : 1000000000000000000 ≤ n.natAbs := by
            have := Nat.le_trans (Nat.le_mul_of_pos_right r.toNat (Nat.pow_pos (n := ps.length) (by decide : 0 < 1000000000000000000))) d.le
            omega
          refine ⟨by omega, .inr ⟨by omega, big⟩, ?_, fun x hx => ?_⟩
          · rw [List.length_append, List.length_singleton, Nat.pow_succ, Nat.mul_comm ((1000000000000000000 : Nat) ^ ps.length), ← Nat.mul_assoc]
            refine Nat.le_trans (Nat.mul_le_mul_right _ ?_) d.le
            omega
          · rcases List.mem_append.mp hx with hx | hx
            · exact d.short x hx
            · rw [List.mem_singleton.mp hx]; exact z1
        · show (r / 1000000000000000000).toNat < r.toNat
          omega
      · rw [decide_eq_false c]
        refine iteF ?_
        have r0 := d.r0
        obtain ⟨m, rfl⟩ : ∃ m : Nat, r = (m : Int) := ⟨r.toNat, by omega⟩
        have m1 : m < 1000000000000000000 := by omega
        refine ⟨_, rfl, .inl ⟨rfl, _, SqL.of hp⟩, _, rfl, _, rfl, dec_log m m1, p, _, _, rfl, rfl, hp, ?_, ?_⟩
        · rw [List.length_map, sizeLine_eq]; omega
        obtain ⟨qs, eqs⟩ : ∃ qs : List Str, qs = ps ++ [Str.ofString (toString ((m : Nat) : Int))] := ⟨_, rfl⟩
        have hq : upd H1 p (.lst (ps.map V.str ++ [V.str (Str.ofString (toString ((m : Nat) : Int)))])) p = some (.lst (qs.map V.str)) := by rw [upd_same, eqs, List.map_append]; rfl
        have sm2 : Same H (upd H1 p (.lst (ps.map V.str ++ [V.str (Str.ofString (toString ((m : Nat) : Int)))]))) := sm.off np
        have short : ∀ x ∈ qs, x.length ≤ 18 := fun x hx => by
          rw [eqs] at hx
          rcases List.mem_append.mp hx with hx | hx
          · exact d.short x hx
          · rw [List.mem_singleton.mp hx]; exact dec_str m m1
        have cnt : qs.length ≤ 20001 := by rw [eqs, List.length_append, List.length_singleton]; omega
        refine ⟨fun σ' H2 => ∃ rs : List Str, σ' = [some (.int n), some (.ref p), some (.int (m : Int)), y] ∧ (∀ x ∈ rs, x.length ≤ 18) ∧ rs.length ≤ 20002 ∧ H2 p = some (.lst (rs.map V.str)) ∧ Same H H2 ∧ (0 ≤ n → n < 1000000000000000000 → rs = [Str.ofString (toString n)]), ?_, ?_⟩
        · refine ⟨_, rfl, _, _, rfl, rfl, _, rfl, ite2 (fun c2 => ?_) (fun c2 => ?_)⟩
          · have neg := of_decide_eq_true c2
            refine ⟨_, rfl, .inl ⟨rfl, _, SqL.of hq⟩, p, _, _, rfl, rfl, hq, ?_, ?_⟩
            · rw [List.length_map, sizeLine_eq]; omega
            · refine ⟨qs ++ [("-" : Str)], rfl, fun x hx => ?_, ?_, (by rw [upd_same, List.map_append]; rfl), sm2.off np, fun a _ => absurd neg (by omega)⟩
              · rcases List.mem_append.mp hx with hx | hx
                · exact short x hx
                · rw [List.mem_singleton.mp hx]; decide
              · rw [List.length_append]; exact Nat.succ_le_succ cnt
          · refine ⟨qs, rfl, short, (by omega), hq, sm2, fun a b => ?_⟩
            rcases d.pos with ⟨e, e2⟩ | ⟨e, e2⟩
            · have e3 : n = (m : Int) := by omega
              rw [eqs, e, e3]
              rfl
            · omega
        · rintro σ' H2 ⟨rs, rfl, hs, hl, h2, s2, hz⟩
          have sum := sum_short (ps := rs.reverse) (fun x hx => hs x (List.mem_reverse.mp hx))
          rw [List.length_reverse] at sum
          have e0 : ("" : Str).length = 0 := rfl
          refine ⟨rfl, _, rfl, p, _, rfl, SqL.of h2, fun u nu => ⟨"", u, rs.reverse, rfl, rfl, .inl (SqL.of (by rw [upd_same, List.map_reverse])), ?_, q _ _ ?_ (fun a b => ?_) (s2.trans (same_new nu))⟩⟩
          · rw [e0]; omega
          · show (PySem.Builtin.Str.glued "" rs.reverse).length ≤ _
            rw [PySem.size_glued, e0]; omega
          · rw [hz a b]
            rfl
end

section
variable {P : Program} {w : World} {K : PySem.W.Frag} {mg : Str → Option Value} {base : Heap}
def sp__longest_sign : Sp := fun vs H Q _ => ∃ (l : List Nat) (i : Nat), vs = [.str (S l), .int (i : Int)] ∧ i ≤ l.length ∧ Q (.str ((signOf (l.drop i)).getD "")) H
theorem ok__longest_sign (T : Top K mg) : FnOk P w K mg base CX0 1 T.a__longest_sign T.d__longest_sign ["text", "at"]  sp__longest_sign := by
  refine T.F__longest_sign.ok sc__longest_sign (fun vs H Q E h => ?_) (fun cdv A outer s H vs Q E hr h => ?_)
  · obtain ⟨_, _, rfl, _⟩ := h
    rfl
  · obtain ⟨l, i, rfl, hi, q⟩ := h
    have hS : ∀ H, SqT K H T.p_SIGNS (SIGV.map V.str) := T.q_SIGNS
    refine ⟨_, (pss_cons (ps_for PassesOwn.never rfl (pi_tup (pe_gr (by rfl) T.c_SIGNS)) (pg_name (i := 2) sc__longest_sign.nd rfl (by first | exact Or.inl rfl | exact Or.inr rfl))
  (pss_one (ps_if (pt_val (pe_bm PySem.F.plainAttrs_str PySem.F.slot_str_startswith PySem.F.type_str_startswith mt_startswith3 (pv 0) (pa_cons (pv 2) (pa_cons (pv 1) pa_nil))))
  (pss_one (ps_ret (pv 2)))
  pss_nil)))
  (pss_one (ps_ret pe_str))), ?_⟩
    refine ⟨T.p_SIGNS, rfl, ⟨_, hS _⟩, for_tup (xs := SIGV.map V.str) (fun k σ H' => ∃ y2, σ = [some (.str (S l)), some (.int (i : Int)), y2] ∧ H' = H ∧ signOf (l.drop i) = (SIGV.drop k).find? fun s => hd s.cps.toList (l.drop i)) ⟨none, rfl, rfl, rfl⟩ (fun k σ H' _ _ => hS _) ?_ ?_⟩
    · rintro k x σ H' hk ⟨y2, rfl, rfl, hf⟩
      obtain ⟨z, hz, rfl⟩ : ∃ z, SIGV[k]? = some z ∧ V.str z = x := by
        rw [List.getElem?_map] at hk
        cases e : SIGV[k]? with
        | none => rw [e] at hk; cases hk
        | some n => rw [e] at hk; exact ⟨n, rfl, Option.some.inj hk⟩
      have hd0 : SIGV.drop k = z :: SIGV.drop (k + 1) := by
        obtain ⟨h1, h2⟩ := List.getElem?_eq_some_iff.mp hz
        rw [List.drop_eq_getElem_cons h1, h2]
      rw [hd0] at hf
      refine ⟨_, rfl, rfl, _, rfl, _, rfl, S l, z, (i : Int), rfl, rfl, ?_⟩
      have e : Txt.startswith3 (S l) z (i : Int) = hd z.cps.toList (l.drop i) := by
        conv => lhs; rw [str_of z]
        exact starts3 l z.cps.toList i hi
      rw [e]
      refine ⟨_, rfl, ?_⟩
      cases hh : hd z.cps.toList (l.drop i) with
      | true =>
        rw [List.find?_cons_of_pos (p := fun s : Str => hd s.cps.toList (l.drop i)) hh] at hf
        refine iteT ⟨_, rfl, ?_⟩
        rw [hf] at q
        exact q
      | false =>
        rw [List.find?_cons_of_neg (p := fun s : Str => hd s.cps.toList (l.drop i)) (by rw [hh]; exact Bool.false_ne_true)] at hf
        exact iteF ⟨_, rfl, rfl, hf⟩
    · rintro σ H' ⟨y2, rfl, rfl, hf⟩
      have e : (SIGV.drop (SIGV.map V.str).length) = [] := by
        rw [List.length_map]
        exact List.drop_length
      rw [e] at hf
      rw [hf] at q
      exact q
def sp__consists_of : Sp := fun vs H Q _ => ∃ (l : List Nat) (z : Str), vs = [.str (S l), .str z] ∧ l.length ≤ 100000 ∧ ∀ H', Same H H' → Q (.bl (l.all fun c => decide (c ∈ z.cps.toList))) H'
theorem ok__consists_of (T : Top K mg) : FnOk P w K mg base CX0 1 T.a__consists_of T.d__consists_of ["run", "allowed"]  sp__consists_of := by
  refine T.F__consists_of.ok sc__consists_of (fun vs H Q E h => ?_) (fun cdv A outer s H vs Q E hr h => ?_)
  · obtain ⟨_, _, rfl, _⟩ := h
    rfl
  · obtain ⟨l, z, rfl, hl, q⟩ := h
    refine ⟨_, (pss_one (ps_ret (pe_callB (cr_all rfl) (by rfl) T.m_all (by decide +kernel) (pa_cons (pe_lc (own := [("character", 2)]) (g := gName 2) (tt := tYes) rfl sc__consists_of.nd (pi_str (pv 0)) (blkOk_by (N := ["run", "allowed", "character"]) (sc := defScope s__consists_of) (by decide +kernel)) (fun _ _ _ _ _ => pg_name (i := 2) sc__consists_of.nd rfl (Or.inl rfl)) (fun _ _ _ _ _ => pts_nil) (fun _ _ _ _ _ => (pe_cmpR op_in_sign (pv 2) (pv 1) (by with_unfolding_all rfl)))) pa_nil)))), ?_⟩
    refine ⟨_, rfl, S l, rfl, fun D hD => ?_⟩
    refine lc_it walk_str (fun i H' => H' = upd H D (.lst ((l.take i).map fun c => V.bl (decide (c ∈ z.cps.toList))))) rfl (fun _ _ _ _ => trivial) ?_ ?_
    · rintro i x H' H'' hi rfl ⟨rfl, c, hc, rfl⟩
      have hc' : l[i]? = some c := by
        rw [← hc]
        show _ = l.toArray[i]?
        simp
      refine ⟨rfl, ?_⟩
      refine ⟨_, rfl, _, rfl, c, z, rfl, rfl, _, upd_same, ?_, ?_⟩
      · rw [List.length_map, List.length_take]
        exact Nat.lt_of_le_of_lt (Nat.le_trans (Nat.min_le_right _ _) hl) (by decide)
      · rw [upd_upd, List.take_add_one, hc', List.map_append]
        rfl
    · rintro H' rfl
      have e : (S l).cps.size = l.length := by simp
      rw [e, List.take_length]
      refine ⟨D, l.map fun c => decide (c ∈ z.cps.toList), rfl, SqL.of ?_, ?_⟩
      · rw [List.map_map]
        exact upd_same
      · have e2 : (l.map fun c => decide (c ∈ z.cps.toList)).all id = l.all fun c => decide (c ∈ z.cps.toList) := by
          rw [List.all_map]
          rfl
        rw [e2]
        exact q _ (same_new hD)
def optV : Option Int → V
  | some n => .int n
  | none => .non
theorem len_zero {l : List Nat} : decide (V.str (S l) = V.str "") = decide (l = []) := by
  by_cases h : l = []
  · subst h
    rfl
  · rw [decide_eq_false h, decide_eq_false (fun q => h ?_)]
    have e2 := congrArg (fun x : Str => x.cps.toList) (V.str.inj q)
    exact e2
theorem hx_of {c : Nat} (h : isHx c = true) : Hx.IsHex c := by
  have h2 := of_decide_eq_true h
  have e : HEX.cps.toList = [48, 49, 50, 51, 52, 53, 54, 55, 56, 57, 97, 98, 99, 100, 101, 102] := by decide +kernel
  rw [e] at h2
  simp only [List.mem_cons, List.mem_nil_iff, or_false] at h2
  unfold Hx.IsHex
  omega
def sp__hex_number : Sp := fun vs H Q _ => ∃ l : List Nat, vs = [.str (S l)] ∧ l.length ≤ 100000 ∧ ∀ H', Same H H' → Q (optV (hexOf l)) H'
theorem ok__hex_number (T : Top K mg) : FnOk P w K mg base CX0 2 T.a__hex_number T.d__hex_number ["digits"]  sp__hex_number := by
  refine T.F__hex_number.ok sc__hex_number (fun vs H Q E h => ?_) (fun cdv A outer s H vs Q E hr h => ?_)
  · obtain ⟨_, rfl, _⟩ := h
    rfl
  · obtain ⟨l, rfl, hl, q⟩ := h
    have hz : (S l).length ≤ sizeLine := by rw [SX.S_len]; exact Nat.le_trans hl (by decide)
    refine ⟨_, (pss_cons (ps_if (pw_or (pt_cmpR op_eq (pv 0) pe_str (nomark _)) (pw_or (pt_cmpR op_gt (pe_callB call_len_str (by rfl) T.m_len PySem.boot_len (pa_cons (pv 0) pa_nil)) (pe_gi (by rfl) T.c_LONGEST_HEX) (nomark _)) (pw_or1 (pt_not (pt_val (pe_call (ok__consists_of T) (hr.mono (by decide)) (by rfl) T.g__consists_of T.F__consists_of.kp T.b__consists_of .nil pass0 (pa_cons (pv 0) (pa_cons (pe_gs (by rfl) T.c_HEX_DIGITS) pa_nil)))))))).pt
  (pss_one (ps_ret pe_non))
  pss_nil)
  (pss_one (ps_ret (pe_callTy call_int_hex (by rfl) T.m_int (by decide +kernel) (pa_cons (pv 0) (pa_cons pe_int pa_nil)))))), ?_⟩
    refine ⟨_, rfl, rfl, _, rfl, ?_⟩
    rw [len_zero]
    unfold hexOf at q
    by_cases h1 : l = []
    · rw [if_pos h1] at q
      rw [decide_eq_true h1]
      exact iteT (iteT (q _ (Same.refl _)))
    · rw [if_neg h1] at q
      rw [decide_eq_false h1]
      refine iteF ⟨_, rfl, _, rfl, hz, _, _, rfl, rfl, _, rfl, ?_⟩
      rw [SX.S_len]
      by_cases h2 : 8 < l.length
      · rw [if_pos h2] at q
        rw [decide_eq_true (by omega)]
        exact iteT (iteT (q _ (Same.refl _)))
      · rw [if_neg h2] at q
        rw [decide_eq_false (by omega)]
        refine iteF ⟨_, rfl, l, HEX, rfl, hl, fun H' sm => ⟨_, rfl, ?_⟩⟩
        show if (!l.all isHx) = true then _ else _
        cases h3 : l.all isHx with
        | false =>
          rw [h3, if_pos rfl] at q
          exact iteT (q _ sm)
        | true =>
          rw [h3, if_neg (by decide)] at q
          exact iteF ⟨_, rfl, l, rfl, h1, by omega, fun c hc => hx_of (List.all_eq_true.mp h3 c hc), q _ sm⟩
theorem dig_of {c : Nat} (h : isDig c = true) : 48 ≤ c ∧ c ≤ 57 := by
  have h2 := of_decide_eq_true h
  have e : DIG.cps.toList = [48, 49, 50, 51, 52, 53, 54, 55, 56, 57] := by decide +kernel
  rw [e] at h2
  simp only [List.mem_cons, List.mem_nil_iff, or_false] at h2
  omega
def decOf (r : List Nat) : Option Int :=
  if 10 < r.length then none else if r.all isDig = false then none
  else if r.head? = some 48 ∧ r ≠ [48] then none else if 4294967295 < ((PySem.NumText.digitsVal r : Nat) : Int) then none else some (PySem.NumText.digitsVal r : Nat)
def sp_decimal_number : Sp := fun vs H Q _ => ∃ l : List Nat, vs = [.str (S l)] ∧ l ≠ [] ∧ l.length ≤ 100000 ∧ ∀ H', Same H H' → Q (optV (decOf l)) H'
theorem ok_decimal_number (T : Top K mg) : FnOk P w K mg base CX0 2 T.a_decimal_number T.d_decimal_number ["run"]  sp_decimal_number := by
  refine T.F_decimal_number.ok sc_decimal_number (fun vs H Q E h => ?_) (fun cdv A outer s H vs Q E hr h => ?_)
  · obtain ⟨_, rfl, _⟩ := h
    rfl
  · obtain ⟨l, rfl, hne, hl, q⟩ := h
    have hz : (S l).length ≤ sizeLine := by rw [SX.S_len]; exact Nat.le_trans hl (by decide)
    refine ⟨_, (pss_cons (ps_if (pw_or (pt_cmpR op_gt (pe_callB call_len_str (by rfl) T.m_len PySem.boot_len (pa_cons (pv 0) pa_nil)) (pe_gi (by rfl) T.c_LONGEST_DECIMAL) (nomark _)) (pw_or1 (pt_not (pt_val (pe_call (ok__consists_of T) (hr.mono (by decide)) (by rfl) T.g__consists_of T.F__consists_of.kp T.b__consists_of .nil pass0 (pa_cons (pv 0) (pa_cons (pe_gs (by rfl) T.c_DIGITS) pa_nil))))))).pt
  (pss_one (ps_ret pe_non))
  pss_nil)
  (pss_cons (ps_if (pw_and (pt_cmpR op_eq (pe_ix ix_str (pv 0) pe_int (fun _ _ => rfl)) pe_str (nomark _)) (pw_and1 (pt_cmpR op_ne (pv 0) pe_str (nomark _)))).pt
  (pss_one (ps_ret pe_non))
  pss_nil)
  (pss_cons (ps_set (i := 1) sc_decimal_number.nd rfl (by first | exact Or.inl rfl | exact Or.inr rfl) (pe_callTy call_int_str (by rfl) T.m_int (by decide +kernel) (pa_cons (pv 0) pa_nil)))
  (pss_cons (ps_if (pt_cmpR op_gt (pv 1) (pe_gi (by rfl) T.c_GREATEST_WORD) (nomark _))
  (pss_one (ps_ret pe_non))
  pss_nil)
  (pss_one (ps_ret (pv 1))))))), ?_⟩
    unfold decOf at q
    refine ⟨_, rfl, _, rfl, hz, _, _, rfl, rfl, _, rfl, ?_⟩
    rw [SX.S_len]
    by_cases h2 : 10 < l.length
    · rw [if_pos h2] at q
      rw [decide_eq_true (by omega)]
      exact iteT (iteT (q _ (Same.refl _)))
    rw [if_neg h2] at q
    rw [decide_eq_false (by omega)]
    refine iteF ⟨_, rfl, l, DIG, rfl, hl, fun H' sm => ⟨_, rfl, ?_⟩⟩
    show if (!l.all isDig) = true then _ else _
    cases h3 : l.all isDig with
    | false =>
      rw [h3, if_pos rfl] at q
      exact iteT (q _ sm)
    | true =>
    rw [h3, if_neg (by decide)] at q
    refine iteF ?_
    obtain ⟨c, r, rfl⟩ : ∃ c r, l = c :: r := by
      cases l with
      | nil => exact absurd rfl hne
      | cons c r => exact ⟨c, r, rfl⟩
    have e0 : decide (V.str ⟨#[c]⟩ = V.str "0") = decide (c = 48) := sgn_eq (c := c) (d := 48)
    have e1 : decide (V.str (S (c :: r)) = V.str "0") = decide (c :: r = [48]) := by
      by_cases h : c :: r = [48]
      · rw [h]
        rfl
      · rw [decide_eq_false h, decide_eq_false (fun q => h ?_)]
        have e2 := congrArg (fun x : Str => x.cps.toList) (V.str.inj q)
        exact e2
    refine ⟨_, rfl, S (c :: r), 0, c, rfl, rfl, hz, atI_nat (j := 0) rfl, rfl, _, rfl, ?_⟩
    rw [e0]
    have tail : ∀ H', Same H H' → (¬ (c = 48 ∧ c :: r ≠ [48])) → tSeq (tAsg (tCB (fun xs H Q => ∃ a n, xs = [V.str a] ∧ intText? a = some n ∧ a.length ≤ 640 ∧ Q (.int n) H) (tCons (tVar 0) tNil)) (gName 1)) (tSeq (tIfS (tTest (tOp (rI0 fun i j => V.bl (decide (j < i))) (tVar 1) (tC (.int 4294967295)))) (tRet (tC .non)) tNext) (tRet (tVar 1))) { nx := fun _ H' => Q .non H', rt := Q } [some (.str (S (c :: r))), none] H' := fun H' sm hn => by
      have hall : ∀ x ∈ c :: r, 48 ≤ x ∧ x ≤ 57 := fun x hx => dig_of (List.all_eq_true.mp h3 x hx)
      have hint : intText? (S (c :: r)) = some ((PySem.NumText.digitsVal (c :: r) : Nat) : Int) := SX.int_S (by
        rw [List.all_eq_true]
        intro x hx
        have := hall x hx
        rw [decide_eq_true this.1, decide_eq_true this.2]
        rfl) (by simp) (by omega)
      have q2 := q
      rw [if_neg (by
        rintro ⟨h4, h5⟩
        exact hn ⟨Option.some.inj h4, h5⟩)] at q2
      refine ⟨_, rfl, S (c :: r), _, rfl, hint, by rw [SX.S_len]; omega, ?_⟩
      refine ⟨_, rfl, _, _, rfl, rfl, _, rfl, ?_⟩
      by_cases h6 : (4294967295 : Int) < ((PySem.NumText.digitsVal (c :: r) : Nat) : Int)
      · rw [if_pos h6] at q2
        rw [decide_eq_true h6]
        exact iteT (q2 _ sm)
      · rw [if_neg h6] at q2
        rw [decide_eq_false h6]
        exact iteF ⟨_, rfl, q2 _ sm⟩
    by_cases h4 : c = 48
    · rw [decide_eq_true h4]
      refine iteT ⟨_, rfl, rfl, _, rfl, ?_⟩
      rw [e1]
      by_cases h5 : c :: r = [48]
      · rw [decide_eq_true h5]
        exact iteF (tail _ sm (fun z => z.2 h5))
      · rw [decide_eq_false h5]
        rw [if_pos ⟨congrArg some h4, h5⟩] at q
        exact iteT (q _ sm)
    · rw [decide_eq_false h4]
      exact iteF (iteF (tail _ sm (fun z => h4 z.1)))
def sp__number : Sp := fun vs H Q _ => ∃ l : List Nat, vs = [.str (S l)] ∧ l ≠ [] ∧ l.length ≤ 100000 ∧ ∀ H', Same H H' → Q (optV (numOf l)) H'
theorem ok__number (T : Top K mg) : FnOk P w K mg base CX0 3 T.a__number T.d__number ["run"]  sp__number := by
  refine T.F__number.ok sc__number (fun vs H Q E h => ?_) (fun cdv A outer s H vs Q E hr h => ?_)
  · obtain ⟨_, rfl, _⟩ := h
    rfl
  · obtain ⟨l, rfl, hne, hl, q⟩ := h
    have hz : (S l).length ≤ sizeLine := by rw [SX.S_len]; exact Nat.le_trans hl (by decide)
    refine ⟨_, (pss_cons (ps_if (pt_val (pe_bm PySem.F.plainAttrs_str PySem.F.slot_str_startswith PySem.F.type_str_startswith mt_startswith (pv 0) (pa_cons pe_str pa_nil)))
  (pss_one (ps_ret (pe_call (ok__hex_number T) (hr.mono (by decide)) (by rfl) T.g__hex_number T.F__hex_number.kp T.b__hex_number .nil pass0 (pa_cons (pe_slice sl_str (pv 0) (po_some pe_int) po_none) pa_nil))))
  pss_nil)
  (pss_one (ps_ret (pe_call (ok_decimal_number T) (hr.mono (by decide)) (by rfl) T.g_decimal_number T.F_decimal_number.kp T.b_decimal_number .nil pass0 (pa_cons (pv 0) pa_nil))))), ?_⟩
    refine ⟨_, rfl, rfl, S l, S [48, 120], rfl, rfl, _, rfl, ?_⟩
    rw [starts0]
    unfold numOf at q
    cases h1 : hd [48, 120] l with
    | true =>
      rw [h1, if_pos rfl] at q
      have hlen : 2 ≤ l.length := by
        have := congrArg List.length (beq_iff_eq.mp h1)
        rw [List.length_take] at this
        simp at this
        omega
      refine iteT ⟨_, rfl, _, rfl, S l, rfl, hz, ?_⟩
      have e := cut_from l 2 hlen
      refine ⟨l.drop 2, ?_, by rw [List.length_drop]; omega, q⟩
      exact congrArg (fun z => [V.str z]) e
    | false =>
      rw [h1, if_neg (by decide)] at q
      exact iteF ⟨_, rfl, l, rfl, hne, hl, q⟩
def sp_is_reserved : Sp := fun vs H Q _ => ∃ l : List Nat, vs = [.str (S l)] ∧ Q (.bl (isRes l)) H
theorem ok_is_reserved (T : Top K mg) : FnOk P w K mg base CX0 1 T.a_is_reserved T.d_is_reserved ["name"]  sp_is_reserved := by
  refine T.F_is_reserved.ok sc_is_reserved (fun vs H Q E h => ?_) (fun cdv A outer s H vs Q E hr h => ?_)
  · obtain ⟨_, rfl, _⟩ := h
    rfl
  · obtain ⟨l, rfl, q⟩ := h
    refine ⟨_, (pss_one (ps_ret (pe_cmpR op_in_seq (pv 0) (pe_gr (by rfl) T.c_RESERVED) (by with_unfolding_all rfl)))), ?_⟩
    exact ⟨_, rfl, T.p_RESERVED, RESV.map V.str, rfl, .inr (T.q_RESERVED _), rfl, rfl, q⟩
end

/-! ### the tokens of a text -/
abbrev TV := Str × V × Nat
inductive Lex : List Nat → Nat → List TV → Nat → Prop
  | nil {n : Nat} : Lex [] n [] n
  | nl {r : List Nat} {n e : Nat} {ts : List TV} : Lex r (n + 1) ts e → Lex (10 :: r) n ts e
  | sp {r : List Nat} {n e : Nat} {ts : List TV} : Lex r n ts e → Lex (32 :: r) n ts e
  | cm {r : List Nat} {n e : Nat} {ts : List TV} : Lex (r.dropWhile (· != 10)) n ts e → Lex (35 :: r) n ts e
  | run {c : Nat} {r : List Nat} {n e : Nat} {ts : List TV} {k : Str} {v : V} : (isLet c || isDig c) = true → runTok ((c :: r).takeWhile inRun) = some (k, v) → Lex ((c :: r).dropWhile inRun) n ts e → Lex (c :: r) n ((k, v, n) :: ts) e
  | sgn {c : Nat} {r : List Nat} {n e : Nat} {ts : List TV} {z : Str} : c ≠ 10 → c ≠ 32 → c ≠ 35 → (isLet c || isDig c) = false → signOf (c :: r) = some z → Lex ((c :: r).drop z.length) n ts e → Lex (c :: r) n ((("sign" : Str), V.str z, n) :: ts) e
def endT (e : Nat) : TV := (("end" : Str), V.str "", e)
def ToksAt (H : Hp) : List Addr → List TV → Prop
  | [], [] => True
  | a :: as, t :: ts => H a = some (.tup [.str t.1, t.2.1, .int (t.2.2 : Int)]) ∧ ToksAt H as ts
  | _, _ => False
theorem ToksAt.mono {H H' : Hp} (h : ∀ a xs, H a = some (.tup xs) → H' a = some (.tup xs)) : ∀ {as : List Addr} {ts : List TV}, ToksAt H as ts → ToksAt H' as ts
  | [], [], _ => trivial
  | a :: as, t :: ts, x => ⟨h _ _ x.1, ToksAt.mono h x.2⟩
  | [], _ :: _, x => x.elim
  | _ :: _, [], x => x.elim
theorem ToksAt.snoc {H : Hp} {a : Addr} {t : TV} (h : H a = some (.tup [.str t.1, t.2.1, .int (t.2.2 : Int)])) : ∀ {as : List Addr} {ts : List TV}, ToksAt H as ts → ToksAt H (as ++ [a]) (ts ++ [t])
  | [], [], _ => ⟨h, trivial⟩
  | b :: as, u :: ts, x => ⟨x.1, ToksAt.snoc h x.2⟩
  | [], _ :: _, x => x.elim
  | _ :: _, [], x => x.elim
theorem ToksAt.len {H : Hp} : ∀ {as : List Addr} {ts : List TV}, ToksAt H as ts → as.length = ts.length
  | [], [], _ => rfl
  | b :: as, u :: ts, x => by rw [List.length_cons, List.length_cons, ToksAt.len x.2]
  | [], _ :: _, x => x.elim
  | _ :: _, [], x => x.elim
theorem run_pos {c : Nat} {r : List Nat} (h : (isLet c || isDig c) = true) : ∃ r', (c :: r).takeWhile inRun = c :: r' := by
  have h2 : inRun c = true := by
    unfold inRun
    cases h1 : isLet c with
    | true => rfl
    | false =>
      rw [h1, Bool.false_or] at h
      rw [h]
      rfl
  exact ⟨r.takeWhile inRun, by rw [List.takeWhile_cons, h2]; rfl⟩
theorem sign_pos {l : List Nat} {z : Str} (h : signOf l = some z) : 1 ≤ z.length ∧ z.length ≤ l.length := by
  have h1 := List.mem_of_find?_eq_some h
  have h2 := List.find?_some h
  have h3 : SIGV.all (fun z => decide (1 ≤ z.length)) = true := by decide +kernel
  have h4 := of_decide_eq_true (List.all_eq_true.mp h3 z h1)
  refine ⟨h4, ?_⟩
  have h5 := congrArg List.length (beq_iff_eq.mp h2)
  rw [List.length_take] at h5
  have h6 : z.cps.toList.length = z.length := by simp [Str.length]
  omega
section
variable {P : Program} {w : World} {K : PySem.W.Frag} {mg : Str → Option Value} {base : Heap}
def sp__run_token : Sp := fun vs H Q _ => ∃ (l : List Nat) (n : Nat) (k : Str) (v : V), vs = [.str (S l), .int (n : Int)] ∧ l.length ≤ 100000 ∧ runTok l = some (k, v) ∧ ∀ H' t, Same H H' → H t = none → H' t = some (.tup [.str k, v, .int (n : Int)]) → Q (.ref t) H'
theorem ok__run_token (T : Top K mg) : FnOk P w K mg base CX0 4 T.a__run_token T.d__run_token ["run", "line"]  sp__run_token := by
  refine T.F__run_token.ok sc__run_token (fun vs H Q E h => ?_) (fun cdv A outer s H vs Q E hr h => ?_)
  · obtain ⟨_, _, _, _, rfl, _⟩ := h
    rfl
  · obtain ⟨l, n, k, v, rfl, hl, ht, q⟩ := h
    have hz : (S l).length ≤ sizeLine := by rw [SX.S_len]; exact Nat.le_trans hl (by decide)
    obtain ⟨c, r, rfl⟩ : ∃ c r, l = c :: r := by
      cases l with
      | nil => cases ht
      | cons c r => exact ⟨c, r, rfl⟩
    have ht' : (if isDig c = true then (numOf (c :: r)).map fun n => (("number" : Str), V.int n) else if 16 < (c :: r).length then none else if isRes (c :: r) = true then some ("word", .str (S (c :: r))) else some ("name", .str (S (c :: r)))) = some (k, v) := ht
    refine ⟨_, (pss_cons (ps_if (pt_cmpR op_in_sign (pe_ix ix_str (pv 0) pe_int (fun _ _ => rfl)) (pe_gs (by rfl) T.c_DIGITS) (by with_unfolding_all rfl))
  (pss_cons (ps_set (i := 2) sc__run_token.nd rfl (by first | exact Or.inl rfl | exact Or.inr rfl) (pe_call (ok__number T) (hr.mono (by decide)) (by rfl) T.g__number T.F__number.kp T.b__number .nil pass0 (pa_cons (pv 0) pa_nil)))
  (pss_cons (ps_if (pt_cmpR op_isN (pv 2) pe_non (nomark _))
  (pss_one ps_never)
  pss_nil)
  (pss_one (ps_ret (pe_tup (pa_cons pe_str (pa_cons (pv 2) (pa_cons (pv 1) pa_nil))))))))
  pss_nil)
  (pss_cons (ps_if (pt_cmpR op_gt (pe_callB call_len_str (by rfl) T.m_len PySem.boot_len (pa_cons (pv 0) pa_nil)) (pe_gi (by rfl) T.c_LONGEST_NAME) (nomark _))
  (pss_one ps_never)
  pss_nil)
  (pss_cons (ps_if (pt_val (pe_call (ok_is_reserved T) (hr.mono (by decide)) (by rfl) T.g_is_reserved T.F_is_reserved.kp T.b_is_reserved .nil pass0 (pa_cons (pv 0) pa_nil)))
  (pss_one (ps_ret (pe_tup (pa_cons pe_str (pa_cons (pv 0) (pa_cons (pv 1) pa_nil))))))
  pss_nil)
  (pss_one (ps_ret (pe_tup (pa_cons pe_str (pa_cons (pv 0) (pa_cons (pv 1) pa_nil))))))))), ?_⟩
    refine ⟨_, rfl, S (c :: r), 0, c, rfl, rfl, hz, atI_nat (j := 0) rfl, c, DIG, rfl, rfl, _, rfl, ?_⟩
    show if isDig c = true then _ else _
    cases h1 : isDig c with
    | true =>
      rw [h1, if_pos rfl] at ht'
      refine iteT ⟨_, rfl, c :: r, rfl, by simp, hl, fun H1 s1 => ?_⟩
      cases h2 : numOf (c :: r) with
      | none => rw [h2] at ht'; cases ht'
      | some m =>
        rw [h2] at ht'
        cases ht'
        refine ⟨_, rfl, rfl, _, rfl, iteF ⟨_, rfl, _, rfl, by show 3 ≤ sizeLine; decide, fun t nt => ?_⟩⟩
        exact q _ _ (s1.trans (same_new nt)) (s1.free nt) upd_same
    | false =>
      rw [h1, if_neg (by decide)] at ht'
      refine iteF ⟨_, rfl, _, rfl, hz, _, _, rfl, rfl, _, rfl, ?_⟩
      rw [SX.S_len]
      by_cases h2 : 16 < (c :: r).length
      · rw [if_pos h2] at ht'
        cases ht'
      rw [if_neg h2] at ht'
      rw [decide_eq_false (by omega)]
      refine iteF ⟨_, rfl, c :: r, rfl, _, rfl, ?_⟩
      cases h3 : isRes (c :: r) with
      | true =>
        rw [h3, if_pos rfl] at ht'
        cases ht'
        refine iteT ⟨_, rfl, _, rfl, by show 3 ≤ sizeLine; decide, fun t nt => ?_⟩
        exact q _ _ (same_new nt) nt upd_same
      | false =>
        rw [h3, if_neg (by decide)] at ht'
        cases ht'
        refine iteF ⟨_, rfl, _, rfl, by show 3 ≤ sizeLine; decide, fun t nt => ?_⟩
        exact q _ _ (same_new nt) nt upd_same
def sp_tokenize : Sp := fun vs H Q _ => ∃ (l : List Nat) (ts : List TV) (e : Nat), vs = [.str (S l)] ∧ l.length ≤ 100000 ∧ Lex l 1 ts e ∧ ∀ H' p as, Same H H' → H p = none → H' p = some (.lst (as.map V.ref)) → ToksAt H' as (ts ++ [endT e]) → Q (.ref p) H'
theorem ok_tokenize (T : Top K mg) : FnOk P w K mg base CX0 5 T.a_tokenize T.d_tokenize ["text"]  sp_tokenize := by
  refine T.F_tokenize.ok sc_tokenize (fun vs H Q E h => ?_) (fun cdv A outer s H vs Q E hr h => ?_)
  · obtain ⟨_, _, _, rfl, _⟩ := h
    rfl
  · obtain ⟨l, ts, e, rfl, hl, hlex, q⟩ := h
    have hz : (S l).length ≤ sizeLine := by rw [SX.S_len]; exact Nat.le_trans hl (by decide)
    refine ⟨_, (pss_cons (ps_set (i := 1) sc_tokenize.nd rfl (by first | exact Or.inl rfl | exact Or.inr rfl) (pe_lst pa_nil))
  (pss_cons (ps_set (i := 2) sc_tokenize.nd rfl (by first | exact Or.inl rfl | exact Or.inr rfl) pe_int)
  (pss_cons (ps_set (i := 3) sc_tokenize.nd rfl (by first | exact Or.inl rfl | exact Or.inr rfl) pe_int)
  (pss_cons (ps_while PassesOwn.never (pt_cmpR op_lt (pv 3) (pe_callB call_len_str (by rfl) T.m_len PySem.boot_len (pa_cons (pv 0) pa_nil)) (nomark _))
  (pss_cons (ps_set (i := 4) sc_tokenize.nd rfl (by first | exact Or.inl rfl | exact Or.inr rfl) (pe_ix ix_str (pv 0) (pv 3) (fun _ _ => rfl)))
  (pss_one (ps_if (pt_cmpR op_eq (pv 4) pe_str (nomark _))
  (pss_cons (ps_aug (i := 2) sc_tokenize.nd rfl (by first | exact Or.inl rfl | exact Or.inr rfl) pe_int ip_add)
  (pss_one (ps_aug (i := 3) sc_tokenize.nd rfl (by first | exact Or.inl rfl | exact Or.inr rfl) pe_int ip_add)))
  (pss_one (ps_if (pt_cmpR op_eq (pv 4) pe_str (nomark _))
  (pss_one (ps_aug (i := 3) sc_tokenize.nd rfl (by first | exact Or.inl rfl | exact Or.inr rfl) pe_int ip_add))
  (pss_one (ps_if (pt_cmpR op_eq (pv 4) pe_str (nomark _))
  (pss_one (ps_set (i := 3) sc_tokenize.nd rfl (by first | exact Or.inl rfl | exact Or.inr rfl) (pe_call (ok__comment_end T) (hr.mono (by decide)) (by rfl) T.g__comment_end T.F__comment_end.kp T.b__comment_end .nil pass0 (pa_cons (pv 0) (pa_cons (pv 3) pa_nil)))))
  (pss_one (ps_if (pw_or (pt_cmpR op_in_sign (pv 4) (pe_gs (by rfl) T.c_LETTERS) (by with_unfolding_all rfl)) (pw_or1 (pt_cmpR op_in_sign (pv 4) (pe_gs (by rfl) T.c_DIGITS) (by with_unfolding_all rfl)))).pt
  (pss_cons (ps_set (i := 5) sc_tokenize.nd rfl (by first | exact Or.inl rfl | exact Or.inr rfl) (pe_call (ok__run T) (hr.mono (by decide)) (by rfl) T.g__run T.F__run.kp T.b__run .nil pass0 (pa_cons (pv 0) (pa_cons (pv 3) pa_nil))))
  (pss_cons (ps_expr (pe_bm PySem.F.plainAttrs_list PySem.F.slot_list_append PySem.F.type_list_append mt_append (pv 1) (pa_cons (pe_call (ok__run_token T) (hr.mono (by decide)) (by rfl) T.g__run_token T.F__run_token.kp T.b__run_token .nil pass0 (pa_cons (pv 5) (pa_cons (pv 2) pa_nil))) pa_nil)))
  (pss_one (ps_aug (i := 3) sc_tokenize.nd rfl (by first | exact Or.inl rfl | exact Or.inr rfl) (pe_callB call_len_str (by rfl) T.m_len PySem.boot_len (pa_cons (pv 5) pa_nil)) ip_add))))
  (pss_cons (ps_set (i := 6) sc_tokenize.nd rfl (by first | exact Or.inl rfl | exact Or.inr rfl) (pe_call (ok__longest_sign T) (hr.mono (by decide)) (by rfl) T.g__longest_sign T.F__longest_sign.kp T.b__longest_sign .nil pass0 (pa_cons (pv 0) (pa_cons (pv 3) pa_nil))))
  (pss_cons (ps_if (pt_cmpR op_eq (pv 6) pe_str (nomark _))
  (pss_one ps_never)
  pss_nil)
  (pss_cons (ps_expr (pe_bm PySem.F.plainAttrs_list PySem.F.slot_list_append PySem.F.type_list_append mt_append (pv 1) (pa_cons (pe_tup (pa_cons pe_str (pa_cons (pv 6) (pa_cons (pv 2) pa_nil)))) pa_nil)))
  (pss_one (ps_aug (i := 3) sc_tokenize.nd rfl (by first | exact Or.inl rfl | exact Or.inr rfl) (pe_callB call_len_str (by rfl) T.m_len PySem.boot_len (pa_cons (pv 6) pa_nil)) ip_add)))))))))))))))
  (pss_cons (ps_expr (pe_bm PySem.F.plainAttrs_list PySem.F.slot_list_append PySem.F.type_list_append mt_append (pv 1) (pa_cons (pe_tup (pa_cons pe_str (pa_cons pe_str (pa_cons (pv 2) pa_nil)))) pa_nil)))
  (pss_one (ps_ret (pv 1)))))))), ?_⟩
    refine ⟨Nat.zero_le _, fun p np => ?_⟩
    have lp : ∀ {H' : Hp} {as : List Addr} {b : Addr} {xs : List V}, H' p = some (.lst (as.map V.ref)) → H' b = some (.tup xs) → b ≠ p := fun h1 h2 z => by
      rw [z, h1] at h2
      cases h2
    refine ⟨fun m σ H' => ∃ (i n : Nat) (as : List Addr) (done rest : List TV) (y4 y5 y6 : Option V), m = l.length - i ∧ i ≤ l.length ∧ as.length ≤ i ∧ done ++ rest = ts ∧ Lex (l.drop i) n rest e ∧
      σ = [some (.str (S l)), some (.ref p), some (.int (n : Int)), some (.int (i : Int)), y4, y5, y6] ∧ Same H H' ∧ H' p = some (.lst (as.map V.ref)) ∧ ToksAt H' as done,
      ⟨_, 0, 1, [], [], ts, none, none, none, rfl, Nat.zero_le _, Nat.zero_le _, rfl, hlex, rfl, same_new np, upd_same, trivial⟩, ?_⟩
    rintro m σ H' ⟨i, n, as, done, rest, y4, y5, y6, rfl, hi, has, hts, hx, rfl, sm, hp, hT⟩
    refine ⟨_, rfl, _, rfl, _, rfl, hz, _, _, rfl, rfl, _, rfl, ?_⟩
    rw [SX.S_len]
    by_cases hlt : i < l.length
    · rw [decide_eq_true (by omega)]
      obtain ⟨c, r, hcr⟩ : ∃ c r, l.drop i = c :: r := ⟨l[i], l.drop (i + 1), List.drop_eq_getElem_cons hlt⟩
      have hr1 : l.drop (i + 1) = r := by
        have := congrArg (List.drop 1) hcr
        rw [List.drop_drop] at this
        exact this
      have hc : l[i]? = some c := by
        rw [← List.head?_drop, hcr]
        rfl
      rw [hcr] at hx
      refine iteT ⟨_, fun _ _ z => z, ?_⟩
      refine ⟨_, rfl, _, rfl, S l, _, c, rfl, rfl, hz, atI_nat hc, ?_⟩
      refine ⟨_, rfl, rfl, _, rfl, ?_⟩
      have e10 : decide (V.str ⟨#[c]⟩ = V.str "\n") = decide (c = 10) := sgn_eq (c := c) (d := 10)
      have e32 : decide (V.str ⟨#[c]⟩ = V.str " ") = decide (c = 32) := sgn_eq (c := c) (d := 32)
      have e35 : decide (V.str ⟨#[c]⟩ = V.str "#") = decide (c = 35) := sgn_eq (c := c) (d := 35)
      have no10 : (isLet 10 || isDig 10) = false := by decide +kernel
      have no32 : (isLet 32 || isDig 32) = false := by decide +kernel
      have no35 : (isLet 35 || isDig 35) = false := by decide +kernel
      rw [e10]
      by_cases c10 : c = 10
      · subst c10
        rw [decide_eq_true rfl]
        refine iteT ⟨_, rfl, _, _, rfl, rfl, _, rfl, _, _, rfl, rfl, ?_⟩
        have hx' : Lex (l.drop (i + 1)) (n + 1) rest e := by
          rw [hr1]
          cases hx with
          | nl h => exact h
          | run h1 => rw [no10] at h1; cases h1
          | sgn h1 => exact absurd rfl h1
        exact ⟨_, by omega, i + 1, n + 1, as, done, rest, _, _, _, rfl, hlt, by omega, hts, hx', rfl, sm, hp, hT⟩
      rw [decide_eq_false c10]
      refine iteF ⟨_, rfl, rfl, _, rfl, ?_⟩
      rw [e32]
      by_cases c32 : c = 32
      · subst c32
        rw [decide_eq_true rfl]
        refine iteT ⟨_, rfl, _, _, rfl, rfl, ?_⟩
        have hx' : Lex (l.drop (i + 1)) n rest e := by
          rw [hr1]
          cases hx with
          | sp h => exact h
          | run h1 => rw [no32] at h1; cases h1
          | sgn _ h1 => exact absurd rfl h1
        exact ⟨_, by omega, i + 1, n, as, done, rest, _, _, _, rfl, hlt, by omega, hts, hx', rfl, sm, hp, hT⟩
      rw [decide_eq_false c32]
      refine iteF ⟨_, rfl, rfl, _, rfl, ?_⟩
      rw [e35]
      by_cases c35 : c = 35
      · subst c35
        rw [decide_eq_true rfl]
        have htw : (l.drop i).takeWhile (· != 10) = 35 :: r.takeWhile (· != 10) := by rw [hcr]; rfl
        have hle := tw_len (· != 10) (l.drop i)
        rw [List.length_drop] at hle
        have hpos : 1 ≤ ((l.drop i).takeWhile (· != 10)).length := by rw [htw, List.length_cons]; omega
        refine iteT ⟨_, rfl, _, rfl, l, i, rfl, hi, hl, ?_⟩
        have hx' : Lex (l.drop (lineEnd l i)) n rest e := by
          have e1 : l.drop (lineEnd l i) = r.dropWhile (· != 10) := by
            unfold lineEnd
            rw [← List.drop_drop, drop_tw, hcr]
            rfl
          rw [e1]
          cases hx with
          | cm h => exact h
          | run h1 => rw [no35] at h1; cases h1
          | sgn _ _ h1 => exact absurd rfl h1
        refine ⟨_, ?_, lineEnd l i, n, as, done, rest, _, _, _, rfl, ?_, ?_, hts, hx', rfl, sm, hp, hT⟩
        · unfold lineEnd; omega
        · unfold lineEnd; omega
        · unfold lineEnd; omega
      rw [decide_eq_false c35]
      refine iteF ⟨_, rfl, c, LET, rfl, rfl, _, rfl, ?_⟩
      have body : (isLet c || isDig c) = true → ∀ D : Ends, (∀ σ' H', (∃ m', m' < l.length - i ∧ ∃ (i' n : Nat) (as : List Addr) (done rest : List TV) (y4 y5 y6 : Option V), m' = l.length - i' ∧ i' ≤ l.length ∧ as.length ≤ i' ∧ done ++ rest = ts ∧ Lex (l.drop i') n rest e ∧
          σ' = [some (.str (S l)), some (.ref p), some (.int (n : Int)), some (.int (i' : Int)), y4, y5, y6] ∧ Same H H' ∧ H' p = some (.lst (as.map V.ref)) ∧ ToksAt H' as done) → D.nx σ' H') →
          tSeq (tAsg (tCall sp__run [] E0 (tCons (tVar 0) (tCons (tVar 3) tNil))) (gName 5)) (tSeq (tDrop (tBM K "list" rAppend (tVar 1) (tCons (tCall sp__run_token [] E0 (tCons (tVar 5) (tCons (tVar 2) tNil))) tNil)))
            (tAug 3 (tCB (fun xs H Q => ∃ z, xs = [.str z] ∧ z.length ≤ sizeLine ∧ Q (.int z.length) H) (tCons (tVar 5) tNil)) (ipI fun i j => i + j))) D [some (.str (S l)), some (.ref p), some (.int (n : Int)), some (.int (i : Int)), some (.str ⟨#[c]⟩), y5, y6] H' := fun hcl D hD => by
        obtain ⟨r', hr'⟩ := run_pos (r := r) hcl
        have hle := tw_len inRun (l.drop i)
        rw [List.length_drop] at hle
        cases hx with
        | nl => rw [no10] at hcl; cases hcl
        | sp => rw [no32] at hcl; cases hcl
        | cm => rw [no35] at hcl; cases hcl
        | sgn _ _ _ h => rw [hcl] at h; cases h
        | @run _ _ _ _ ts' k v h1 h2 h3 =>
          refine ⟨_, rfl, _, rfl, l, i, rfl, hi, hl, ?_⟩
          refine ⟨_, rfl, .inl ⟨rfl, _, SqL.of hp⟩, ?_⟩
          refine ⟨_, rfl, _, rfl, (l.drop i).takeWhile inRun, n, k, v, rfl, by omega, by rw [hcr]; exact h2, fun H2 t s2 nt ht => ?_⟩
          refine ⟨p, as.map V.ref, .ref t, rfl, rfl, s2 _ _ hp, ?_, ?_⟩
          · rw [List.length_map]
            exact Nat.lt_of_le_of_lt (Nat.le_trans has (Nat.le_trans hi hl)) (by decide)
          · have nt2 : t ≠ p := lp (as := as) (s2 _ _ hp) ht
            have hzr : (S ((l.drop i).takeWhile inRun)).length ≤ sizeLine := by rw [SX.S_len]; exact Nat.le_trans (show _ ≤ 100000 by omega) (by decide)
            refine ⟨_, rfl, _, rfl, _, rfl, hzr, _, _, rfl, rfl, ?_⟩
            have hpos : 1 ≤ ((l.drop i).takeWhile inRun).length := by rw [hcr, hr', List.length_cons]; omega
            refine hD _ _ ⟨_, ?_, i + ((l.drop i).takeWhile inRun).length, n, as ++ [t], done ++ [(k, v, n)], ts', some (.str ⟨#[c]⟩), some (.str (S ((l.drop i).takeWhile inRun))), y6, rfl, by omega, ?_, ?_, ?_, ?_, ?_, ?_, ?_⟩
            · omega
            · rw [List.length_append, List.length_singleton]; omega
            · rw [List.append_assoc]; exact hts
            · rw [← List.drop_drop, drop_tw, hcr]
              exact h3
            · rfl
            · intro b o hb
              rw [upd_ne (ne_of_none hb np)]
              exact s2 _ _ (sm _ _ hb)
            · rw [upd_same, List.map_append]
              rfl
            · refine ToksAt.snoc (t := (k, v, n)) ?_ (hT.mono fun a xs ha => ?_)
              · rw [upd_ne nt2]
                exact ht
              · rw [upd_ne (lp (as := as) hp ha)]
                exact s2 _ _ ha
      show if isLet c = true then _ else _
      cases h1 : isLet c with
      | true =>
        refine iteT (iteT ?_)
        exact body (by rw [h1]; rfl) _ fun σ' H' h => h
      | false =>
        refine iteF ⟨_, rfl, c, DIG, rfl, rfl, _, rfl, ?_⟩
        show if isDig c = true then _ else _
        cases h2 : isDig c with
        | true =>
          refine iteT ?_
          exact body (by rw [h1, h2]; rfl) _ fun σ' H' h => h
        | false =>
          have hcl : (isLet c || isDig c) = false := by rw [h1, h2]; rfl
          refine iteF ⟨_, rfl, _, rfl, l, i, rfl, hi, ?_⟩
          rw [hcr]
          cases hx with
          | nl => exact absurd rfl c10
          | sp => exact absurd rfl c32
          | cm => exact absurd rfl c35
          | run h => rw [hcl] at h; cases h
          | @sgn _ _ _ _ ts' z _ _ _ _ hz2 h3 =>
            obtain ⟨z1, z2⟩ := sign_pos hz2
            rw [hz2]
            have hcrl : (c :: r).length = l.length - i := by rw [← hcr, List.length_drop]
            refine ⟨_, rfl, rfl, _, rfl, ?_⟩
            have ez : decide (V.str z = V.str "") = false := decide_eq_false fun q => by
              have := V.str.inj q
              rw [this] at z1
              exact absurd z1 (by decide)
            show if decide (V.str z = V.str "") = true then _ else _
            rw [ez]
            refine iteF ⟨_, rfl, .inl ⟨rfl, _, SqL.of hp⟩, _, rfl, _, rfl, by show 3 ≤ sizeLine; decide, fun t nt => ?_⟩
            have nt2 : t ≠ p := fun z => by rw [z, hp] at nt; cases nt
            refine ⟨p, as.map V.ref, .ref t, rfl, rfl, same_new nt _ _ hp, ?_, ?_⟩
            · rw [List.length_map]
              exact Nat.lt_of_le_of_lt (Nat.le_trans has (Nat.le_trans hi hl)) (by decide)
            · refine ⟨_, rfl, _, rfl, z, rfl, ?_, _, _, rfl, rfl, ?_⟩
              · exact Nat.le_trans (Nat.le_trans z2 (by omega)) (Nat.le_trans hl (by decide))
              · refine ⟨_, ?_, i + z.length, n, as ++ [t], done ++ [(("sign" : Str), V.str z, n)], ts', some (.str ⟨#[c]⟩), y5, some (.str z), rfl, by omega, ?_, ?_, ?_, ?_, ?_, ?_, ?_⟩
                · omega
                · rw [List.length_append, List.length_singleton]; omega
                · rw [List.append_assoc]; exact hts
                · rw [← List.drop_drop, hcr]
                  exact h3
                · rfl
                · intro b o hb
                  rw [upd_ne (ne_of_none hb np)]
                  exact same_new nt _ _ (sm _ _ hb)
                · rw [upd_same, List.map_append]
                  rfl
                · refine ToksAt.snoc (t := (("sign" : Str), V.str z, n)) ?_ (hT.mono fun a xs ha => ?_)
                  · rw [upd_ne nt2, upd_same]
                    rfl
                  · rw [upd_ne (lp (as := as) hp ha)]
                    exact same_new nt _ _ ha
    · rw [decide_eq_false (by omega)]
      have hd0 : l.drop i = [] := List.drop_of_length_le (by omega)
      rw [hd0] at hx
      refine iteF ?_
      cases hx with
      | nil =>
        rw [List.append_nil] at hts
        subst hts
        refine ⟨_, rfl, .inl ⟨rfl, _, SqL.of hp⟩, _, rfl, by show 3 ≤ sizeLine; decide, fun t nt => ?_⟩
        have nt2 : t ≠ p := fun z => by rw [z, hp] at nt; cases nt
        refine ⟨p, as.map V.ref, .ref t, rfl, rfl, same_new nt _ _ hp, ?_, ?_⟩
        · rw [List.length_map]
          exact Nat.lt_of_le_of_lt (Nat.le_trans has (Nat.le_trans hi hl)) (by decide)
        · refine ⟨_, rfl, ?_⟩
          refine q _ p (as ++ [t]) (fun b o hb => ?_) np ?_ ?_
          · rw [upd_ne (ne_of_none hb np)]
            exact same_new nt _ _ (sm _ _ hb)
          · rw [upd_same, List.map_append]
            rfl
          · refine ToksAt.snoc (t := endT _) ?_ (hT.mono fun a xs ha => ?_)
            · rw [upd_ne nt2, upd_same]
              rfl
            · rw [upd_ne (lp (as := as) hp ha)]
              exact same_new nt _ _ ha
end

theorem fold_cat : ∀ (L : List (Array Nat)) (acc : Array Nat), (L.foldl (· ++ ·) acc).toList = acc.toList ++ (L.map Array.toList).flatten
  | [], acc => by simp
  | a :: L, acc => by
    rw [List.foldl_cons, fold_cat L (acc ++ a), List.map_cons, List.flatten_cons, Array.toList_append, List.append_assoc]
theorem mul_S (l : List Nat) (n : Int) (h : 0 ≤ n) : Txt.mul (S l) n = S (List.replicate n.toNat l).flatten := by
  unfold Txt.mul
  by_cases h1 : n < 1
  · have e : n = 0 := by omega
    subst e
    rfl
  · rw [if_neg h1]
    by_cases h2 : (n == 1 || (S l).length == 0) = true
    · rw [if_pos h2]
      rw [Bool.or_eq_true, beq_iff_eq, beq_iff_eq] at h2
      rcases h2 with rfl | h2
      · show S l = S (List.replicate 1 l).flatten
        simp
      · rw [SX.S_len] at h2
        have e : l = [] := List.eq_nil_of_length_eq_zero h2
        subst e
        simp
    · rw [if_neg h2]
      apply TL.ext_tl
      show ((List.replicate n.toNat l.toArray).foldl (· ++ ·) #[]).toList = _
      rw [fold_cat, List.map_replicate]
      rfl
def rMulS : R2 := fun x y H Q => ∃ (l : List Nat) (n : Int), x = .str (S l) ∧ y = .int n ∧ 0 ≤ n ∧ n ≤ 1000 ∧ l.length ≤ 100 ∧ Q (.str (S (List.replicate n.toNat l).flatten)) H
theorem op_mul_str {X : Cx} : OpR X (binaryOp .Mult) rMulS := by
  intro pins s σ H x y v u Q I rx ry h
  obtain ⟨l, n, rfl, rfl, h0, h1, hl, q⟩ := h
  obtain ⟨t, rfl⟩ := rx
  obtain ⟨t', rfl⟩ := ry
  refine SB.mul (mulOk_of 100 1000 (by rw [SX.S_len]; exact hl) (by omega) (by omega) (by decide) (by decide)) fun t2 k => ?_
  rw [mul_S l n h0]
  exact ⟨.str (S (List.replicate n.toNat l).flatten), H, I.tok _, ⟨_, rfl⟩, q⟩
theorem rep_one (k c : Nat) : (List.replicate k [c]).flatten = List.replicate k c := by
  induction k with
  | zero => rfl
  | succ k ih => rw [List.replicate_succ, List.flatten_cons, ih, List.replicate_succ]; rfl

/-! ### the law's draws -/
def nl (l : List Nat) : Nat := (l.filter (· == 10)).length
theorem nl_app (a b : List Nat) : nl (a ++ b) = nl a + nl b := by
  unfold nl
  rw [List.filter_append, List.length_append]
theorem isRes_mem {l : List Nat} (h : isRes l = true) : S l ∈ RESV := by
  unfold isRes inV at h
  rw [List.any_eq_true] at h
  obtain ⟨y, hy, he⟩ := h
  obtain ⟨z, hz, rfl⟩ := List.mem_map.mp hy
  have e : (z == S l) = true := he
  rw [← eq_of_beq e]
  exact hz
theorem mem_isRes {l : List Nat} (h : S l ∈ RESV) : isRes l = true := by
  unfold isRes inV
  rw [List.any_eq_true]
  exact ⟨.str (S l), List.mem_map_of_mem h, beq_self_eq_true (S l)⟩
/-- a value that a token may have -/
def ValOk (v : V) : Prop := (∃ z : List Nat, v = .str (S z) ∧ z.length ≤ 16 ∧ ∀ c ∈ z, c < 1114112) ∨ ∃ m : Nat, v = .int (m : Int) ∧ m ≤ 4294967295
theorem run_small {c : Nat} (h : inRun c = true) : c < 1114112 := by
  have e1 : LET.cps.toList.all (fun c => decide (c < 1114112)) = true := by decide +kernel
  have e2 : DIG.cps.toList.all (fun c => decide (c < 1114112)) = true := by decide +kernel
  unfold inRun at h
  rw [Bool.or_eq_true, Bool.or_eq_true] at h
  rcases h with h | h | h
  · exact of_decide_eq_true (List.all_eq_true.mp e1 c (of_decide_eq_true h))
  · exact of_decide_eq_true (List.all_eq_true.mp e2 c (of_decide_eq_true h))
  · have := of_decide_eq_true h
    omega
/-- a piece that is a run -/
structure RunP (k : Str) (v : V) (x : List Nat) : Prop where
  head : ∃ c r, x = c :: r ∧ (isLet c || isDig c) = true
  all : ∀ c ∈ x, inRun c = true
  tok : runTok x = some (k, v)
  len : x.length ≤ 16
  kind : k ≠ "sign"
  line : nl x = 0
  val : ValOk v
  kst : k.cps.all (· < 0x110000) = true
  res : (k = "word" ∧ v = .str (S x) ∧ isRes x = true) ∨ (k = "name" ∧ v = .str (S x) ∧ isRes x = false) ∨ k = "number"
theorem run_nl {x : List Nat} (h : ∀ c ∈ x, inRun c = true) : nl x = 0 := by
  unfold nl
  rw [List.length_eq_zero_iff, List.filter_eq_nil_iff]
  intro c hc
  have := h c hc
  intro e
  have e2 : c = 10 := by simpa using e
  subst e2
  exact absurd this (by decide +kernel)
def Piece (k : Str) (v : V) (x : List Nat) : Prop := RunP k v x ∨ (k = "sign" ∧ v = .str (S x) ∧ S x ∈ SIGV)
def NameOk (z : List Nat) : Prop := (∃ c r, z = c :: r ∧ isLet c = true) ∧ (∀ c ∈ z, inRun c = true) ∧ z.length ≤ 16 ∧ isRes z = false
theorem let_not_dig {c : Nat} (h : isLet c = true) : isDig c = false := by
  have h2 := of_decide_eq_true h
  have e : LET.cps.toList.all (fun c => !isDig c) = true := by decide +kernel
  have := List.all_eq_true.mp e c h2
  simpa using this
theorem name_tok {z : List Nat} (h : NameOk z) : RunP "name" (.str (S z)) z := by
  obtain ⟨⟨c, r, rfl, hc⟩, ha, hl, hr⟩ := h
  refine ⟨⟨c, r, rfl, by rw [hc]; rfl⟩, ha, ?_, hl, by decide, run_nl ha, .inl ⟨_, rfl, hl, fun x hx => run_small (ha x hx)⟩, by decide +kernel, .inr (.inl ⟨rfl, rfl, hr⟩)⟩
  show (if isDig c = true then _ else if 16 < (c :: r).length then none else if isRes (c :: r) = true then some (("word" : Str), V.str (S (c :: r))) else some ("name", .str (S (c :: r)))) = _
  rw [let_not_dig hc, if_neg (by decide), if_neg (by omega), hr, if_neg (by decide)]
theorem word_ok {z : Str} (h : z ∈ RESV) : RunP "word" (.str z) z.cps.toList := by
  have e : RESV.all (fun z => match z.cps.toList with | [] => false | c :: r => isLet c && (c :: r).all inRun && decide ((c :: r).length ≤ 16)) = true := by decide +kernel
  have h2 := List.all_eq_true.mp e z h
  have hs := str_of z
  cases hz : z.cps.toList with
  | nil => rw [hz] at h2; cases h2
  | cons c r =>
    rw [hz] at h2 hs
    have h2' : (isLet c && (c :: r).all inRun && decide ((c :: r).length ≤ 16)) = true := h2
    rw [Bool.and_eq_true, Bool.and_eq_true, decide_eq_true_eq] at h2'
    obtain ⟨⟨h3, h4⟩, h5⟩ := h2'
    have ha := fun x hx => List.all_eq_true.mp h4 x hx
    have hr : isRes (c :: r) = true := mem_isRes (by rw [← hs]; exact h)
    refine ⟨⟨c, r, rfl, by rw [h3]; rfl⟩, ha, ?_, h5, by decide, run_nl ha, .inl ⟨c :: r, by rw [hs], h5, fun x hx => run_small (ha x hx)⟩, by decide +kernel, .inl ⟨rfl, by rw [hs], hr⟩⟩
    show (if isDig c = true then _ else if 16 < (c :: r).length then none else if isRes (c :: r) = true then some (("word" : Str), V.str (S (c :: r))) else some ("name", .str (S (c :: r)))) = _
    rw [let_not_dig h3, if_neg (by decide), if_neg (by omega), hr, if_pos rfl, ← hs]
theorem dig_is {c : Nat} (h : 48 ≤ c ∧ c ≤ 57) : isDig c = true := by
  have e : DIG.cps.toList = [48, 49, 50, 51, 52, 53, 54, 55, 56, 57] := by decide +kernel
  unfold isDig
  rw [e, decide_eq_true_eq]
  simp only [List.mem_cons, List.mem_nil_iff, or_false]
  omega
theorem dig_run {c : Nat} (h : isDig c = true) : inRun c = true := by
  unfold inRun
  rw [h]
  cases isLet c <;> rfl
theorem num_head {m : Nat} {r : List Nat} (h : TL.numL m = 48 :: r) : m = 0 := by
  have hv := TL.numL_val m
  by_cases h10 : m < 10
  · rw [TL.numL_lt h10] at h
    injection h with h1 _
    omega
  · exfalso
    -- a number of two digits or more does not begin with a nought
    have key : ∀ (k m : Nat), m < k → 10 ≤ m → ∀ r, TL.numL m ≠ 48 :: r := by
      intro k
      induction k with
      | zero => intro m hm; omega
      | succ k ih =>
        intro m hm h10 r h
        rw [TL.numL_step h10] at h
        by_cases h2 : m / 10 < 10
        · rw [TL.numL_lt h2] at h
          injection h with h1 _
          omega
        · cases hq : TL.numL (m / 10) with
          | nil => exact absurd hq (TL.numL_ne _)
          | cons a b =>
            rw [hq] at h
            injection h with h1 _
            exact ih (m / 10) (by omega) (by omega) b (by rw [hq, h1])
    exact key (m + 1) m (by omega) (by omega) r h
theorem dec_ok {m : Nat} (h : m ≤ 4294967295) : RunP "number" (.int (m : Int)) (TL.numL m) := by
  have hd0 := TL.numL_digits m
  have hdig : ∀ c ∈ TL.numL m, isDig c = true := fun c hc => dig_is (hd0 c hc)
  have hlen : (TL.numL m).length ≤ 10 := TL.numL_len (by decide) (Nat.lt_of_le_of_lt h (by decide))
  cases hx : TL.numL m with
  | nil => exact absurd hx (TL.numL_ne _)
  | cons c r =>
    rw [hx] at hdig hlen hd0
    have hc := hdig c List.mem_cons_self
    have ha : ∀ x ∈ c :: r, inRun x = true := fun x hx => dig_run (hdig x hx)
    refine ⟨⟨c, r, rfl, by rw [hc, Bool.or_true]⟩, ha, ?_, by omega, by decide, run_nl ha, .inr ⟨m, rfl, h⟩, by decide +kernel, .inr (.inr rfl)⟩
    have hn : numOf (c :: r) = some (m : Int) := by
      unfold numOf
      have e1 : hd [48, 120] (c :: r) = false := by
        unfold hd
        cases r with
        | nil => simp
        | cons d r =>
          have := hd0 d (List.mem_cons_of_mem _ List.mem_cons_self)
          show ([c, d] == [48, 120]) = false
          rw [beq_eq_false_iff_ne]
          intro z
          injection z with _ z
          injection z with z _
          omega
      have e2 : (c :: r).all isDig = true := List.all_eq_true.mpr hdig
      have e3 : PySem.NumText.digitsVal (c :: r) = m := by rw [← hx]; exact TL.numL_val m
      rw [e1, if_neg (by decide), if_neg (by omega), e2, if_neg (by decide), e3]
      rw [if_neg (by
        rintro ⟨h1, h2⟩
        have e4 : c = 48 := Option.some.inj h1
        subst e4
        have e5 := num_head hx
        subst e5
        exact h2 hx.symm), if_neg (by omega)]
    show (if isDig c = true then (numOf (c :: r)).map fun n => (("number" : Str), V.int n) else _) = _
    rw [hc, if_pos rfl, hn]
    rfl
theorem hx_is {c : Nat} (h : (48 ≤ c ∧ c ≤ 57) ∨ (97 ≤ c ∧ c ≤ 102)) : isHx c = true := by
  have e : HEX.cps.toList = [48, 49, 50, 51, 52, 53, 54, 55, 56, 57, 97, 98, 99, 100, 101, 102] := by decide +kernel
  unfold isHx
  rw [e, decide_eq_true_eq]
  simp only [List.mem_cons, List.mem_nil_iff, or_false]
  omega
theorem hx_run {c : Nat} (h : isHx c = true) : inRun c = true := by
  have e : HEX.cps.toList.all inRun = true := by decide +kernel
  exact List.all_eq_true.mp e c (of_decide_eq_true h)
theorem hex_ok {d : List Nat} {m : Nat} (h0 : d ≠ []) (h1 : d.length ≤ 8) (h2 : ∀ c ∈ d, isHx c = true) (h3 : Hx.hexNum d = m) (h4 : m ≤ 4294967295) : RunP "number" (.int (m : Int)) (48 :: 120 :: d) := by
  have ha : ∀ x ∈ 48 :: 120 :: d, inRun x = true := fun x hx => by
    rcases List.mem_cons.mp hx with rfl | hx
    · decide +kernel
    rcases List.mem_cons.mp hx with rfl | hx
    · decide +kernel
    · exact hx_run (h2 x hx)
  refine ⟨⟨48, _, rfl, by decide +kernel⟩, ha, ?_, by rw [List.length_cons, List.length_cons]; omega, by decide, run_nl ha, .inr ⟨m, rfl, h4⟩, by decide +kernel, .inr (.inr rfl)⟩
  have hn : numOf (48 :: 120 :: d) = some (m : Int) := by
    unfold numOf
    have e1 : hd [48, 120] (48 :: 120 :: d) = true := by
      unfold hd
      show ([48, 120] == [48, 120]) = true
      decide
    rw [e1, if_pos rfl]
    show hexOf d = _
    unfold hexOf
    rw [if_neg h0, if_neg (by omega), List.all_eq_true.mpr h2, if_neg (by decide), h3]
  have e : runTok (48 :: 120 :: d) = if isDig 48 = true then (numOf (48 :: 120 :: d)).map fun n => (("number" : Str), V.int n) else if 16 < (48 :: 120 :: d).length then none else if isRes (48 :: 120 :: d) = true then some (("word" : Str), V.str (S (48 :: 120 :: d))) else some ("name", .str (S (48 :: 120 :: d))) := rfl
  rw [e, if_pos (show isDig 48 = true by decide +kernel), hn]
  rfl

/-! ### what the law draws -/
structure GapOk (z : List Nat) : Prop where
  head : ∃ c r, z = c :: r ∧ (c = 32 ∨ c = 10 ∨ c = 35)
  len : z.length ≤ 7
  lex : ∀ rest n ts e, Lex rest (n + nl z) ts e → Lex (z ++ rest) n ts e
structure ComOk (z : List Nat) : Prop where
  head : ∃ r, z = 35 :: r ∧ ∀ c ∈ r, c ≠ 10
  len : z.length ≤ 5
theorem dw_nil {p : Nat → Bool} : ∀ {l : List Nat}, (∀ c ∈ l, p c = true) → l.dropWhile p = []
  | [], _ => rfl
  | a :: r, h => by
    rw [List.dropWhile_cons, h a List.mem_cons_self]
    exact dw_nil fun c hc => h c (List.mem_cons_of_mem _ hc)
theorem com_end {z : List Nat} (h : ComOk z) (n : Nat) : Lex z n [] n := by
  obtain ⟨⟨r, rfl, hr⟩, _⟩ := h
  refine .cm ?_
  have e : r.dropWhile (· != 10) = [] := by
    refine dw_nil fun c hc => ?_
    simpa using hr c hc
  rw [e]
  exact .nil
theorem com_gap {z : List Nat} (h : ComOk z) : GapOk (z ++ [10]) := by
  obtain ⟨⟨r, rfl, hr⟩, hl⟩ := h
  refine ⟨⟨35, r ++ [10], rfl, .inr (.inr rfl)⟩, by rw [List.length_append, List.length_singleton]; omega, fun rest n ts e hx => ?_⟩
  have h0 : nl (35 :: r) = 0 := by
    unfold nl
    rw [List.length_eq_zero_iff, List.filter_eq_nil_iff]
    intro c hc e
    have e2 : c = 10 := by simpa using e
    rcases List.mem_cons.mp hc with rfl | hc
    · cases e2
    · exact hr c hc e2
  rw [nl_app, h0] at hx
  have e1 : (35 :: r ++ [10]) ++ rest = 35 :: (r ++ 10 :: rest) := by simp
  rw [e1]
  refine .cm ?_
  have e2 : (r ++ 10 :: rest).dropWhile (· != 10) = 10 :: rest := by
    rw [List.dropWhile_append_of_pos (fun c hc => by simpa using hr c hc)]
    rfl
  rw [e2]
  refine .nl ?_
  have e3 : n + (0 + nl [10]) = n + 1 := rfl
  rw [e3] at hx
  exact hx
section
variable {P : Program} {w : World} {K : PySem.W.Frag} {mg : Str → Option Value} {base : Heap}
def sp__law_words : Sp := fun vs H Q _ => vs = [] ∧ ∀ H' p, Same H H' → H p = none → H' p = some (.lst (RESV.map V.str)) → Q (.ref p) H'
def SGL : List Str := [":=", ",", ";", ".", "(", ")", "[", "]", "+", "-", "*", "/", "&", "|", "^", "~", "!", "<<", ">>", "<", "<=", "~<", "~<=", "==", "!="]
def sp__law_signs : Sp := fun vs H Q _ => vs = [] ∧ ∀ H' p, Same H H' → H p = none → H' p = some (.lst (SGL.map V.str)) → Q (.ref p) H'
theorem ok__law_words (T : Top K mg) : FnOk P w K mg base CX0 1 T.a__law_words T.d__law_words []  sp__law_words := by
  refine T.F__law_words.ok sc__law_words (fun vs H Q E h => ?_) (fun cdv A outer s H vs Q E hr h => ?_)
  · rw [h.1]
    rfl
  · obtain ⟨rfl, q⟩ := h
    refine ⟨_, (pss_cons (ps_set (i := 0) sc__law_words.nd rfl (by first | exact Or.inl rfl | exact Or.inr rfl) pe_str)
  (pss_one (ps_ret (pe_bm PySem.F.plainAttrs_str PySem.F.slot_str_split PySem.F.type_str_split mt_split (pe_op op_add_str (pv 0) pe_str) (pa_cons pe_str pa_nil))))), ?_⟩
    refine ⟨_, rfl, _, _, rfl, rfl, by decide +kernel, rfl, _, _, rfl, rfl, rfl, by decide +kernel, fun p np => ?_⟩
    refine q _ _ (same_new np) np ?_
    rw [upd_same]
    have e : Txt.split ("system in out object cell operation give end task every within if else loop to while read write" ++ " interrupt calls mod and or") " " = RESV := by decide +kernel
    exact congrArg (fun l : List Str => some (HO.lst (l.map V.str))) e
theorem ok__law_signs (T : Top K mg) : FnOk P w K mg base CX0 1 T.a__law_signs T.d__law_signs []  sp__law_signs := by
  refine T.F__law_signs.ok sc__law_signs (fun vs H Q E h => ?_) (fun cdv A outer s H vs Q E hr h => ?_)
  · rw [h.1]
    rfl
  · obtain ⟨rfl, q⟩ := h
    refine ⟨_, (pss_one (ps_ret (pe_bm PySem.F.plainAttrs_str PySem.F.slot_str_split PySem.F.type_str_split mt_split pe_str (pa_cons pe_str pa_nil)))), ?_⟩
    refine ⟨rfl, _, _, rfl, rfl, rfl, by decide +kernel, fun p np => ?_⟩
    refine q _ _ (same_new np) np ?_
    rw [upd_same]
    have e : Txt.split ":= , ; . ( ) [ ] + - * / & | ^ ~ ! << >> < <= ~< ~<= == !=" " " = SGL := by decide +kernel
    exact congrArg (fun l : List Str => some (HO.lst (l.map V.str))) e
end

theorem nat_in {v : Int} {n : Nat} (h0 : 0 ≤ v) (h1 : v < (n : Int)) : ∃ k : Nat, v = (k : Int) ∧ k < n := ⟨v.toNat, by omega, by omega⟩
/-- a sign of a written text at a drawn place -/
theorem sign_at {z : Str} {v : Int} {n : Nat} (h0 : 0 ≤ v) (h1 : v < (n : Int)) (hn : z.cps.toList.length = n) : ∃ c, atI z.cps.toList v = some c ∧ c ∈ z.cps.toList := by
  obtain ⟨k, rfl, hk⟩ := nat_in h0 h1
  have hk2 : k < z.cps.toList.length := by omega
  exact ⟨z.cps.toList[k], atI_nat (List.getElem?_eq_getElem hk2), List.getElem_mem hk2⟩
section
variable {P : Program} {w : World} {K : PySem.W.Frag} {mg : Str → Option Value} {base : Heap}
def sp__law_comment : Sp := fun vs H Q _ => ∃ (st c : Addr), vs = [.ref st] ∧ StOk H st c ∧ ∀ (z : List Nat) (H' : Hp), ComOk z → StOk H' st c → Keep st c H H' → Q (.str (S z)) H'
def MRK : Str := " !#&()*+,-./09:;<=>?@AZ[]^_az{|}~"
theorem ok__law_comment (T : Top K mg) : FnOk P w K mg base CX0 2 T.a__law_comment T.d__law_comment ["state"]  sp__law_comment := by
  refine T.F__law_comment.ok sc__law_comment (fun vs H Q E h => ?_) (fun cdv A outer s H vs Q E hr h => ?_)
  · obtain ⟨_, _, rfl, _⟩ := h
    rfl
  · obtain ⟨st, c, rfl, hst, q⟩ := h
    refine ⟨_, (pss_cons (ps_set (i := 1) sc__law_comment.nd rfl (by first | exact Or.inl rfl | exact Or.inr rfl) pe_str)
  (pss_cons (ps_for PassesOwn.never rfl (pi_range1 (by rfl) T.m_range (pa_cons (pe_call (ok__law_draw T) (hr.mono (by decide)) (by rfl) T.g__law_draw T.F__law_draw.kp T.b__law_draw .nil pass0 (pa_cons (pv 0) (pa_cons pe_int pa_nil))) pa_nil)) (pg_name (i := 2) sc__law_comment.nd rfl (by first | exact Or.inl rfl | exact Or.inr rfl))
  (pss_one (ps_set (i := 1) sc__law_comment.nd rfl (by first | exact Or.inl rfl | exact Or.inr rfl) (pe_op op_add_str (pv 1) (pe_ix ix_str pe_str (pe_call (ok__law_draw T) (hr.mono (by decide)) (by rfl) T.g__law_draw T.F__law_draw.kp T.b__law_draw .nil pass0 (pa_cons (pv 0) (pa_cons pe_int pa_nil))) (fun _ _ => rfl))))))
  (pss_one (ps_ret (pv 1))))), ?_⟩
    refine ⟨_, rfl, st, c, 5, rfl, hst, by decide, by decide, fun v H1 v0 v1 hst1 k1 => ?_⟩
    refine ⟨v, rfl, by omega, by omega, for_range (n := v.toNat) (fun i σ H' => ∃ (r : List Nat) (y2 : Option V), σ = [some (.ref st), some (.str (S (35 :: r))), y2] ∧ (∀ c ∈ r, c ≠ 10) ∧ r.length = i ∧ StOk H' st c ∧ Keep st c H H') ⟨[], none, rfl, by simp, rfl, hst1, k1⟩ ?_ ?_⟩
    · rintro i σ H' hi ⟨r, y2, rfl, hr10, hri, hs, hk⟩
      refine ⟨_, rfl, _, rfl, st, c, 33, rfl, hs, by decide, by decide, fun u H2 u0 u1 hs2 k2 => ?_⟩
      obtain ⟨d, hd1, hd2⟩ := sign_at (z := MRK) (n := 33) u0 u1 (by decide +kernel)
      refine ⟨MRK, u, d, rfl, rfl, by decide +kernel, hd1, ?_⟩
      refine ⟨S (35 :: r), ⟨#[d]⟩, rfl, rfl, ?_, r ++ [d], some (.int ((0 : Int) + (i : Int))), ?_, ?_, ?_, hs2, hk.trans k2⟩
      · rw [SX.S_len]
        show (35 :: r).length + 1 ≤ sizeLine
        rw [List.length_cons]
        exact Nat.le_trans (show _ ≤ 100 by omega) (by decide)
      · have e : S (35 :: r) ++ (⟨#[d]⟩ : Str) = S (35 :: (r ++ [d])) := SX.S_cat (35 :: r) [d]
        exact congrArg (fun z => [some (V.ref st), some (V.str z), some (V.int ((0 : Int) + (i : Int)))]) e
      · intro x hx
        rcases List.mem_append.mp hx with hx | hx
        · exact hr10 x hx
        · have e : MRK.cps.toList.all (fun c => decide (c ≠ 10)) = true := by decide +kernel
          rw [List.mem_singleton] at hx
          subst hx
          exact of_decide_eq_true (List.all_eq_true.mp e _ hd2)
      · rw [List.length_append, List.length_singleton, hri]
    · rintro σ H' ⟨r, y2, rfl, hr10, hri, hs, hk⟩
      exact ⟨_, rfl, q _ _ ⟨⟨r, rfl, hr10⟩, by rw [List.length_cons]; omega⟩ hs hk⟩
theorem sp_gap {k : Nat} (h1 : 1 ≤ k) (h2 : k ≤ 2) : GapOk (List.replicate k 32) := by
  have key : ∀ k n (rest : List Nat) ts e, Lex rest n ts e → Lex (List.replicate k 32 ++ rest) n ts e := by
    intro k
    induction k with
    | zero => intro n rest ts e h; exact h
    | succ k ih => intro n rest ts e h; exact .sp (ih n rest ts e h)
  refine ⟨?_, by rw [List.length_replicate]; omega, fun rest n ts e hx => ?_⟩
  · obtain ⟨j, rfl⟩ : ∃ j, k = j + 1 := ⟨k - 1, by omega⟩
    exact ⟨32, List.replicate j 32, rfl, .inl rfl⟩
  · have h0 : nl (List.replicate k 32) = 0 := by
      unfold nl
      rw [List.length_eq_zero_iff, List.filter_eq_nil_iff]
      intro c hc
      rw [(List.mem_replicate.mp hc).2]
      decide
    rw [h0] at hx
    exact key k n rest ts e hx
def sp__law_gap : Sp := fun vs H Q _ => ∃ (st c : Addr), vs = [.ref st] ∧ StOk H st c ∧ ∀ (z : List Nat) (H' : Hp), GapOk z → StOk H' st c → Keep st c H H' → Q (.str (S z)) H'
theorem ok__law_gap (T : Top K mg) : FnOk P w K mg base CX0 3 T.a__law_gap T.d__law_gap ["state"]  sp__law_gap := by
  refine T.F__law_gap.ok sc__law_gap (fun vs H Q E h => ?_) (fun cdv A outer s H vs Q E hr h => ?_)
  · obtain ⟨_, _, rfl, _⟩ := h
    rfl
  · obtain ⟨st, c, rfl, hst, q⟩ := h
    refine ⟨_, (pss_cons (ps_set (i := 1) sc__law_gap.nd rfl (by first | exact Or.inl rfl | exact Or.inr rfl) (pe_call (ok__law_draw T) (hr.mono (by decide)) (by rfl) T.g__law_draw T.F__law_draw.kp T.b__law_draw .nil pass0 (pa_cons (pv 0) (pa_cons pe_int pa_nil))))
  (pss_cons (ps_if (pt_cmpR op_lt (pv 1) pe_int (nomark _))
  (pss_one (ps_ret (pe_op op_mul_str pe_str (pe_op op_add pe_int (pe_call (ok__law_draw T) (hr.mono (by decide)) (by rfl) T.g__law_draw T.F__law_draw.kp T.b__law_draw .nil pass0 (pa_cons (pv 0) (pa_cons pe_int pa_nil)))))))
  pss_nil)
  (pss_cons (ps_if (pt_cmpR op_eq (pv 1) pe_int (nomark _))
  (pss_one (ps_ret pe_str))
  pss_nil)
  (pss_cons (ps_if (pt_cmpR op_eq (pv 1) pe_int (nomark _))
  (pss_one (ps_ret pe_str))
  pss_nil)
  (pss_one (ps_ret (pe_op op_add_str (pe_call (ok__law_comment T) (hr.mono (by decide)) (by rfl) T.g__law_comment T.F__law_comment.kp T.b__law_comment .nil pass0 (pa_cons (pv 0) pa_nil)) pe_str))))))), ?_⟩
    refine ⟨_, rfl, st, c, 6, rfl, hst, by decide, by decide, fun v H1 v0 v1 hst1 k1 => ?_⟩
    refine ⟨_, rfl, _, _, rfl, rfl, _, rfl, ite2 (fun c1 => ?_) (fun c1 => ?_)⟩
    · refine ⟨_, rfl, st, c, 2, rfl, hst1, by decide, by decide, fun u H2 u0 u1 hs2 k2 => ?_⟩
      refine ⟨_, _, rfl, rfl, [32], 1 + u, rfl, rfl, by omega, by omega, by decide, ?_⟩
      rw [rep_one]
      exact q _ _ (sp_gap (by omega) (by omega)) hs2 (k1.trans k2)
    refine ⟨_, rfl, rfl, _, rfl, ite2 (fun c2 => ?_) (fun c2 => ?_)⟩
    · exact q [10] _ ⟨⟨10, [], rfl, .inr (.inl rfl)⟩, by decide, fun rest n ts e hx => .nl hx⟩ hst1 k1
    refine ⟨_, rfl, rfl, _, rfl, ite2 (fun c3 => ?_) (fun c3 => ?_)⟩
    · exact q [32, 10, 10, 32, 32] _ ⟨⟨32, _, rfl, .inl rfl⟩, by decide, fun rest n ts e hx => .sp (.nl (.nl (.sp (.sp hx))))⟩ hst1 k1
    · refine ⟨_, rfl, st, c, rfl, hst1, fun z H2 hz hs2 k2 => ?_⟩
      have hg := com_gap hz
      refine ⟨S z, S [10], rfl, rfl, ?_, ?_⟩
      · rw [SX.S_len, SX.S_len]
        exact Nat.le_trans (show z.length + 1 ≤ 100 by have := hz.len; omega) (by decide)
      · rw [SX.S_cat]
        exact q _ _ hg hs2 (k1.trans k2)
def sp__law_number : Sp := fun vs H Q _ => ∃ (st c : Addr), vs = [.ref st] ∧ StOk H st c ∧ ∀ (n : Nat) (H' : Hp), n ≤ 4294967295 → StOk H' st c → Keep st c H H' → Q (.int (n : Int)) H'
theorem ok__law_number (T : Top K mg) : FnOk P w K mg base CX0 2 T.a__law_number T.d__law_number ["state"]  sp__law_number := by
  refine T.F__law_number.ok sc__law_number (fun vs H Q E h => ?_) (fun cdv A outer s H vs Q E hr h => ?_)
  · obtain ⟨_, _, rfl, _⟩ := h
    rfl
  · obtain ⟨st, c, rfl, hst, q⟩ := h
    have q2 : ∀ (v : Int) (H' : Hp), 0 ≤ v → v ≤ 4294967295 → StOk H' st c → Keep st c H H' → Q (.int v) H' := fun v H' h0 h1 h2 h3 => by
      obtain ⟨k, rfl, hk⟩ := nat_in (n := 4294967296) h0 (by omega)
      exact q k H' (by omega) h2 h3
    refine ⟨_, (pss_cons (ps_set (i := 1) sc__law_number.nd rfl (by first | exact Or.inl rfl | exact Or.inr rfl) (pe_call (ok__law_draw T) (hr.mono (by decide)) (by rfl) T.g__law_draw T.F__law_draw.kp T.b__law_draw .nil pass0 (pa_cons (pv 0) (pa_cons pe_int pa_nil))))
  (pss_cons (ps_if (pt_cmpR op_lt (pv 1) pe_int (nomark _))
  (pss_one (ps_ret (pe_call (ok__law_draw T) (hr.mono (by decide)) (by rfl) T.g__law_draw T.F__law_draw.kp T.b__law_draw .nil pass0 (pa_cons (pv 0) (pa_cons pe_int pa_nil)))))
  pss_nil)
  (pss_cons (ps_if (pt_cmpR op_eq (pv 1) pe_int (nomark _))
  (pss_one (ps_ret (pe_op op_sub pe_int (pe_call (ok__law_draw T) (hr.mono (by decide)) (by rfl) T.g__law_draw T.F__law_draw.kp T.b__law_draw .nil pass0 (pa_cons (pv 0) (pa_cons pe_int pa_nil))))))
  pss_nil)
  (pss_cons (ps_if (pt_cmpR op_eq (pv 1) pe_int (nomark _))
  (pss_one (ps_ret (pe_op op_add (pe_op op_mul pe_int (pe_call (ok__law_draw T) (hr.mono (by decide)) (by rfl) T.g__law_draw T.F__law_draw.kp T.b__law_draw .nil pass0 (pa_cons (pv 0) (pa_cons pe_int pa_nil)))) (pe_call (ok__law_draw T) (hr.mono (by decide)) (by rfl) T.g__law_draw T.F__law_draw.kp T.b__law_draw .nil pass0 (pa_cons (pv 0) (pa_cons pe_int pa_nil))))))
  pss_nil)
  (pss_one (ps_ret (pe_ix ix_list (pe_lst (pa_cons pe_int (pa_cons pe_int (pa_cons pe_int (pa_cons pe_int (pa_cons pe_int (pa_cons pe_int (pa_cons pe_int pa_nil)))))))) (pe_call (ok__law_draw T) (hr.mono (by decide)) (by rfl) T.g__law_draw T.F__law_draw.kp T.b__law_draw .nil pass0 (pa_cons (pv 0) (pa_cons pe_int pa_nil))) (fun _ _ => rfl)))))))), ?_⟩
    refine ⟨_, rfl, st, c, 5, rfl, hst, by decide, by decide, fun v H1 v0 v1 hst1 k1 => ?_⟩
    refine ⟨_, rfl, _, _, rfl, rfl, _, rfl, ite2 (fun c1 => ?_) (fun c1 => ?_)⟩
    · exact ⟨_, rfl, st, c, 12, rfl, hst1, by decide, by decide, fun u H2 u0 u1 hs2 k2 => q2 u H2 u0 (by omega) hs2 (k1.trans k2)⟩
    refine ⟨_, rfl, rfl, _, rfl, ite2 (fun c2 => ?_) (fun c2 => ?_)⟩
    · refine ⟨_, rfl, st, c, 3, rfl, hst1, by decide, by decide, fun u H2 u0 u1 hs2 k2 => ?_⟩
      exact ⟨_, _, rfl, rfl, q2 _ H2 (by omega) (by omega) hs2 (k1.trans k2)⟩
    refine ⟨_, rfl, rfl, _, rfl, ite2 (fun c3 => ?_) (fun c3 => ?_)⟩
    · refine ⟨_, rfl, st, c, 65536, rfl, hst1, by decide, by decide, fun u H2 u0 u1 hs2 k2 => ?_⟩
      refine ⟨_, _, rfl, rfl, .inl ⟨by decide, by decide⟩, ?_⟩
      refine ⟨_, rfl, st, c, 65536, rfl, hs2, by decide, by decide, fun x H3 x0 x1 hs3 k3 => ?_⟩
      exact ⟨_, _, rfl, rfl, q2 _ H3 (by omega) (by omega) hs3 (k1.trans (k2.trans k3))⟩
    · refine ⟨by show 7 ≤ sizeLine; decide, fun p np => ?_⟩
      refine ⟨_, rfl, st, c, 7, rfl, hst1.same (same_new np), by decide, by decide, fun u H2 u0 u1 hs2 k2 => ?_⟩
      obtain ⟨k, rfl, hk⟩ := nat_in (n := 7) u0 u1
      have npp := hst1.ne np
      have hp : H2 p = some (.lst ([16, 255, 256, 65535, 2147483648, 999999999, 1000000000].map V.int)) := k2 _ _ npp.1 npp.2 upd_same
      obtain ⟨v, hv, hv1, hv2⟩ : ∃ v : Int, ([16, 255, 256, 65535, 2147483648, 999999999, 1000000000].map V.int)[k]? = some (.int v) ∧ 0 ≤ v ∧ v ≤ 4294967295 := by
        match k, hk with
        | 0, _ => exact ⟨_, rfl, by decide, by decide⟩
        | 1, _ => exact ⟨_, rfl, by decide, by decide⟩
        | 2, _ => exact ⟨_, rfl, by decide, by decide⟩
        | 3, _ => exact ⟨_, rfl, by decide, by decide⟩
        | 4, _ => exact ⟨_, rfl, by decide, by decide⟩
        | 5, _ => exact ⟨_, rfl, by decide, by decide⟩
        | 6, _ => exact ⟨_, rfl, by decide, by decide⟩
      exact ⟨p, _, _, _, rfl, rfl, SqL.of hp, atI_nat hv, q2 v H2 hv1 hv2 hs2 (k1.trans ((Keep.same (same_new np)).trans k2))⟩
end

end Mine

set_option Elab.async false
set_option linter.all false
set_option maxRecDepth 100000
set_option maxHeartbeats 4000000


namespace Mine
open PySem PySem.Spec PyProof.Rows L2
def INN : Str := LET ++ "0123456789_"
theorem inn_run {c : Nat} (h : c ∈ INN.cps.toList) : inRun c = true := by
  have e : INN.cps.toList.all inRun = true := by decide +kernel
  exact List.all_eq_true.mp e c h
theorem let_run {c : Nat} (h : isLet c = true) : inRun c = true := by
  unfold inRun
  rw [h]
  rfl
theorem res_len {l : List Nat} (h : isRes l = true) : l.length ≤ 9 ∧ 95 ∉ l := by
  have h2 := isRes_mem h
  have e : RESV.all (fun z => decide (z.cps.toList.length ≤ 9 ∧ 95 ∉ z.cps.toList)) = true := by decide +kernel
  exact of_decide_eq_true (List.all_eq_true.mp e _ h2)
theorem under_name {c : Nat} {r : List Nat} (hc : isLet c = true) (ha : ∀ x ∈ c :: r, inRun x = true) (h : isRes (c :: r) = true) : NameOk (c :: r ++ [95]) := by
  have hl := (res_len h).1
  refine ⟨⟨c, r ++ [95], rfl, hc⟩, fun x hx => ?_, by rw [List.length_append, List.length_singleton]; omega, ?_⟩
  · rcases List.mem_append.mp hx with hx | hx
    · exact ha x hx
    · rw [List.mem_singleton] at hx
      rw [hx]
      decide +kernel
  · cases e : isRes (c :: r ++ [95]) with
    | false => rfl
    | true => exact absurd (List.mem_append_right _ (List.mem_singleton_self 95)) (res_len e).2
theorem hexNum_acc : ∀ (d : List Nat) (a : Nat), d.foldl (fun a c => a * 16 + Hx.hv c) a = a * 16 ^ d.length + Hx.hexNum d
  | [], a => by simp [Hx.hexNum]
  | c :: d, a => by
    have h1 := hexNum_acc d (a * 16 + Hx.hv c)
    have h2 := hexNum_acc d (0 * 16 + Hx.hv c)
    show d.foldl (fun a c => a * 16 + Hx.hv c) (a * 16 + Hx.hv c) = a * 16 ^ (d.length + 1) + d.foldl (fun a c => a * 16 + Hx.hv c) (0 * 16 + Hx.hv c)
    rw [h1, h2, Nat.pow_succ, Nat.add_mul, Nat.add_mul, Nat.zero_mul, Nat.zero_add, Nat.mul_assoc, Nat.mul_comm 16, Nat.add_assoc]
theorem hexNum_cons (c : Nat) (d : List Nat) : Hx.hexNum (c :: d) = Hx.hv c * 16 ^ d.length + Hx.hexNum d := by
  have h2 := hexNum_acc d (0 * 16 + Hx.hv c)
  have e : Hx.hexNum (c :: d) = d.foldl (fun a c => a * 16 + Hx.hv c) (0 * 16 + Hx.hv c) := rfl
  rw [e, h2, Nat.zero_mul, Nat.zero_add]
theorem hex_digit {k : Nat} (h : k < 16) : ∃ c, HEX.cps.toList[k]? = some c ∧ isHx c = true ∧ Hx.hv c = k := by
  have e : (List.range 16).all (fun k => match HEX.cps.toList[k]? with | some c => isHx c && decide (Hx.hv c = k) | none => false) = true := by decide +kernel
  have h2 := List.all_eq_true.mp e k (List.mem_range.mpr h)
  cases hc : HEX.cps.toList[k]? with
  | none => rw [hc] at h2; cases h2
  | some c =>
    rw [hc] at h2
    have h3 : (isHx c && decide (Hx.hv c = k)) = true := h2
    rw [Bool.and_eq_true, decide_eq_true_eq] at h3
    exact ⟨c, rfl, h3.1, h3.2⟩
section
variable {P : Program} {w : World} {K : PySem.W.Frag} {mg : Str → Option Value} {base : Heap}
def sp__law_name : Sp := fun vs H Q _ => ∃ (st c : Addr), vs = [.ref st] ∧ StOk H st c ∧ ∀ (z : List Nat) (H' : Hp), NameOk z → StOk H' st c → Keep st c H H' → Q (.str (S z)) H'
theorem ok__law_name (T : Top K mg) : FnOk P w K mg base CX0 2 T.a__law_name T.d__law_name ["state"]  sp__law_name := by
  refine T.F__law_name.ok sc__law_name (fun vs H Q E h => ?_) (fun cdv A outer s H vs Q E hr h => ?_)
  · obtain ⟨_, _, rfl, _⟩ := h
    rfl
  · obtain ⟨st, c, rfl, hst, q⟩ := h
    refine ⟨_, (pss_cons (ps_set (i := 1) sc__law_name.nd rfl (by first | exact Or.inl rfl | exact Or.inr rfl) pe_str)
  (pss_cons (ps_set (i := 2) sc__law_name.nd rfl (by first | exact Or.inl rfl | exact Or.inr rfl) (pe_op op_add_str (pv 1) pe_str))
  (pss_cons (ps_set (i := 3) sc__law_name.nd rfl (by first | exact Or.inl rfl | exact Or.inr rfl) (pe_op op_add pe_int (pe_call (ok__law_draw T) (hr.mono (by decide)) (by rfl) T.g__law_draw T.F__law_draw.kp T.b__law_draw .nil pass0 (pa_cons (pv 0) (pa_cons pe_int pa_nil)))))
  (pss_cons (ps_if (pt_cmpR op_eq (pe_call (ok__law_draw T) (hr.mono (by decide)) (by rfl) T.g__law_draw T.F__law_draw.kp T.b__law_draw .nil pass0 (pa_cons (pv 0) (pa_cons pe_int pa_nil))) pe_int (nomark _))
  (pss_one (ps_set (i := 3) sc__law_name.nd rfl (by first | exact Or.inl rfl | exact Or.inr rfl) (pe_op op_add pe_int (pe_call (ok__law_draw T) (hr.mono (by decide)) (by rfl) T.g__law_draw T.F__law_draw.kp T.b__law_draw .nil pass0 (pa_cons (pv 0) (pa_cons pe_int pa_nil))))))
  pss_nil)
  (pss_cons (ps_set (i := 4) sc__law_name.nd rfl (by first | exact Or.inl rfl | exact Or.inr rfl) (pe_ix ix_str (pv 1) (pe_call (ok__law_draw T) (hr.mono (by decide)) (by rfl) T.g__law_draw T.F__law_draw.kp T.b__law_draw .nil pass0 (pa_cons (pv 0) (pa_cons pe_int pa_nil))) (fun _ _ => rfl)))
  (pss_cons (ps_while PassesOwn.never (pt_cmpR op_lt (pe_callB call_len_str (by rfl) T.m_len PySem.boot_len (pa_cons (pv 4) pa_nil)) (pv 3) (nomark _))
  (pss_one (ps_set (i := 4) sc__law_name.nd rfl (by first | exact Or.inl rfl | exact Or.inr rfl) (pe_op op_add_str (pv 4) (pe_ix ix_str (pv 2) (pe_call (ok__law_draw T) (hr.mono (by decide)) (by rfl) T.g__law_draw T.F__law_draw.kp T.b__law_draw .nil pass0 (pa_cons (pv 0) (pa_cons pe_int pa_nil))) (fun _ _ => rfl))))))
  (pss_cons (ps_if (pt_cmpR op_in_seq (pv 4) (pe_call0 (ok__law_words T) (hr.mono (by decide)) (by rfl) T.g__law_words T.F__law_words.kp T.b__law_words .nil pass0) (by with_unfolding_all rfl))
  (pss_one (ps_set (i := 4) sc__law_name.nd rfl (by first | exact Or.inl rfl | exact Or.inr rfl) (pe_op op_add_str (pv 4) pe_str)))
  pss_nil)
  (pss_one (ps_ret (pv 4)))))))))), ?_⟩
    refine ⟨_, rfl, LET, "0123456789_", rfl, rfl, by decide +kernel, ?_⟩
    refine ⟨_, rfl, st, c, 5, rfl, hst, by decide, by decide, fun v H1 v0 v1 hst1 k1 => ⟨_, _, rfl, rfl, ?_⟩⟩
    refine ⟨_, rfl, st, c, 3, rfl, hst1, by decide, by decide, fun u H2 u0 u1 hst2 k2 => ⟨rfl, _, rfl, ?_⟩⟩
    -- from the size on
    have go : ∀ (sz : Nat) (H3 : Hp) (D : Ends), 1 ≤ sz → sz ≤ 16 → StOk H3 st c → Keep st c H H3 → (∀ (z : List Nat) (H' : Hp), NameOk z → StOk H' st c → Keep st c H H' → D.rt (.str (S z)) H') →
        tSeq (tAsg (tOp rIxS (tVar 1) (tCall sp__law_draw [] E0 (tCons (tVar 0) (tCons (tC (.int 52)) tNil)))) (gName 4))
          (tSeq (tWhile (tTest (tOp (rI0 fun i j => V.bl (decide (i < j))) (tCB (fun xs H Q => ∃ z, xs = [.str z] ∧ z.length ≤ sizeLine ∧ Q (.int z.length) H) (tCons (tVar 4) tNil)) (tVar 3)))
            (tAsg (tOp (fun x y H Q => ∃ i j, x = .str i ∧ y = .str j ∧ i.length + j.length ≤ sizeLine ∧ Q (.str (i ++ j)) H) (tVar 4) (tOp rIxS (tVar 2) (tCall sp__law_draw [] E0 (tCons (tVar 0) (tCons (tC (.int 63)) tNil))))) (gName 4)))
          (tSeq (tIfS (tTest (tOp (rIn K false) (tVar 4) (tCall sp__law_words [] E0 tNil))) (tAsg (tOp (fun x y H Q => ∃ i j, x = .str i ∧ y = .str j ∧ i.length + j.length ≤ sizeLine ∧ Q (.str (i ++ j)) H) (tVar 4) (tC (.str "_"))) (gName 4)) tNext)
            (tRet (tVar 4)))) D [some (.ref st), some (.str LET), some (.str INN), some (.int (sz : Int)), none] H3 := fun sz H3 D hz1 hz2 hs3 k3 qD => by
      refine ⟨_, rfl, _, rfl, st, c, 52, rfl, hs3, by decide, by decide, fun x H4 x0 x1 hs4 k4 => ?_⟩
      obtain ⟨a, ha1, ha2⟩ := sign_at (z := LET) (n := 52) x0 x1 (by decide +kernel)
      have haL : isLet a = true := decide_eq_true ha2
      refine ⟨LET, x, a, rfl, rfl, by decide +kernel, ha1, ?_⟩
      refine ⟨fun m σ H' => ∃ r : List Nat, m = sz - (a :: r).length ∧ (a :: r).length ≤ sz ∧ (∀ x ∈ a :: r, inRun x = true) ∧ σ = [some (.ref st), some (.str LET), some (.str INN), some (.int (sz : Int)), some (.str (S (a :: r)))] ∧ StOk H' st c ∧ Keep st c H H',
        ⟨_, [], rfl, hz1, fun x hx => by rw [List.mem_singleton] at hx; rw [hx]; exact let_run haL, rfl, hs4, k3.trans k4⟩, ?_⟩
      rintro m σ H' ⟨r, rfl, hlen, hrun, rfl, hs, hk⟩
      have hsl : (S (a :: r)).length ≤ sizeLine := by rw [SX.S_len]; exact Nat.le_trans (show _ ≤ 100 by omega) (by decide)
      refine ⟨_, rfl, _, rfl, hsl, _, rfl, _, _, rfl, rfl, _, rfl, ?_⟩
      rw [SX.S_len]
      by_cases hlt : (a :: r).length < sz
      · rw [decide_eq_true (by omega)]
        refine iteT ⟨_, fun _ _ z => z, ?_⟩
        refine ⟨_, rfl, _, rfl, _, rfl, st, c, 63, rfl, hs, by decide, by decide, fun y H5 y0 y1 hs5 k5 => ?_⟩
        obtain ⟨d, hd1, hd2⟩ := sign_at (z := INN) (n := 63) y0 y1 (by decide +kernel)
        refine ⟨INN, y, d, rfl, rfl, by decide +kernel, hd1, S (a :: r), ⟨#[d]⟩, rfl, rfl, ?_, ?_⟩
        · rw [SX.S_len]
          show (a :: r).length + 1 ≤ sizeLine
          exact Nat.le_trans (show _ ≤ 100 by omega) (by decide)
        · refine ⟨sz - (a :: (r ++ [d])).length, ?_, r ++ [d], rfl, ?_, ?_, ?_, hs5, hk.trans k5⟩
          · rw [List.length_cons, List.length_append, List.length_singleton]
            rw [List.length_cons] at hlt ⊢
            omega
          · rw [List.length_cons, List.length_append, List.length_singleton]
            rw [List.length_cons] at hlt
            omega
          · intro x hx
            rcases List.mem_append.mp (show x ∈ (a :: r) ++ [d] from hx) with hx | hx
            · exact hrun x hx
            · rw [List.mem_singleton] at hx
              rw [hx]
              exact inn_run hd2
          · have e : S (a :: r) ++ (⟨#[d]⟩ : Str) = S (a :: (r ++ [d])) := SX.S_cat (a :: r) [d]
            exact congrArg (fun z => [some (V.ref st), some (.str LET), some (.str INN), some (.int (sz : Int)), some (V.str z)]) e
      · rw [decide_eq_false (by omega)]
        refine iteF ?_
        refine ⟨_, rfl, rfl, fun H5 p s5 np hp => ?_⟩
        refine ⟨p, RESV.map V.str, rfl, .inl (SqL.of hp), rfl, rfl, isRes (a :: r), rfl, ?_⟩
        have hs5 := hs.same s5
        have hk5 := hk.trans (Keep.same (p := st) (c := c) s5)
        cases hres : isRes (a :: r) with
        | true =>
          refine iteT ⟨_, rfl, S (a :: r), S [95], rfl, rfl, ?_, _, rfl, ?_⟩
          · rw [SX.S_len, SX.S_len]
            exact Nat.le_trans (show (a :: r).length + 1 ≤ 100 by omega) (by decide)
          · rw [SX.S_cat]
            exact qD _ _ (under_name haL hrun hres) hs5 hk5
        | false =>
          refine iteF ⟨_, rfl, ?_⟩
          exact qD _ _ ⟨⟨a, r, rfl, haL⟩, hrun, by omega, hres⟩ hs5 hk5
    refine ite2 (fun c1 => ?_) (fun c1 => ?_)
    · refine ⟨_, rfl, st, c, 16, rfl, hst2, by decide, by decide, fun x H3 x0 x1 hst3 k3 => ⟨_, _, rfl, rfl, ?_⟩⟩
      obtain ⟨k, rfl, hk⟩ := nat_in (n := 16) x0 x1
      have e : (1 : Int) + (k : Int) = ((1 + k : Nat) : Int) := by omega
      have g := go (1 + k) H3 { nx := fun _ H' => Q .non H', rt := Q } (by omega) (by omega) hst3 (k1.trans (k2.trans k3)) q
      rw [← e] at g
      exact g
    · obtain ⟨k, rfl, hk⟩ := nat_in (n := 5) v0 v1
      have e : (1 : Int) + (k : Int) = ((1 + k : Nat) : Int) := by omega
      have g := go (1 + k) H2 { nx := fun _ H' => Q .non H', rt := Q } (by omega) (by omega) hst2 (k1.trans k2) q
      rw [← e] at g
      exact g
def sp__law_hex : Sp := fun vs H Q _ => ∃ (m sz : Nat), vs = [.int (m : Int), .int (sz : Int)] ∧ m ≤ 4294967295 ∧ 1 ≤ sz ∧ sz ≤ 8 ∧ ∀ d : List Nat, d ≠ [] → d.length ≤ 8 → (∀ c ∈ d, isHx c = true) → Hx.hexNum d = m → Q (.str (S (48 :: 120 :: d))) H
theorem ok__law_hex (T : Top K mg) : FnOk P w K mg base CX0 1 T.a__law_hex T.d__law_hex ["n", "size"]  sp__law_hex := by
  refine T.F__law_hex.ok sc__law_hex (fun vs H Q E h => ?_) (fun cdv A outer s H vs Q E hr h => ?_)
  · obtain ⟨_, _, rfl, _⟩ := h
    rfl
  · obtain ⟨N, sz, rfl, hN, z1, z2, q⟩ := h
    refine ⟨_, (pss_cons (ps_set (i := 2) sc__law_hex.nd rfl (by first | exact Or.inl rfl | exact Or.inr rfl) pe_str)
  (pss_cons (ps_while PassesOwn.never (pw_or (pt_cmpR op_gt (pv 0) pe_int (nomark _)) (pw_or1 (pt_cmpR op_lt (pe_callB call_len_str (by rfl) T.m_len PySem.boot_len (pa_cons (pv 2) pa_nil)) (pv 1) (nomark _)))).pt
  (pss_cons (ps_set (i := 2) sc__law_hex.nd rfl (by first | exact Or.inl rfl | exact Or.inr rfl) (pe_op op_add_str (pe_ix ix_str pe_str (pe_op op_mod (pe_callTy call_int1 (by rfl) T.m_int (by decide +kernel) (pa_cons (pv 0) pa_nil)) pe_int) (fun _ _ => rfl)) (pv 2)))
  (pss_one (ps_set (i := 0) sc__law_hex.nd rfl (by first | exact Or.inl rfl | exact Or.inr rfl) (pe_op op_fdiv (pv 0) pe_int)))))
  (pss_one (ps_ret (pe_op op_add_str pe_str (pv 2)))))), ?_⟩
    refine ⟨fun k σ H' => ∃ (m : Nat) (d : List Nat), k = 8 - d.length ∧ d.length ≤ 8 ∧ (∀ c ∈ d, isHx c = true) ∧ N = m * 16 ^ d.length + Hx.hexNum d ∧ m * 16 ^ d.length < 16 ^ 8 ∧ σ = [some (.int (m : Int)), some (.int (sz : Int)), some (.str (S d))] ∧ H' = H,
      ⟨_, N, [], rfl, by decide, by simp, by simp [Hx.hexNum], ?_, rfl, rfl⟩, ?_⟩
    · show N * 1 < 16 ^ 8
      have : (16 : Nat) ^ 8 = 4294967296 := by decide
      omega
    · rintro k σ H' ⟨m, d, rfl, hd8, hdx, hNd, hm, rfl, rfl⟩
      have hsl : (S d).length ≤ sizeLine := by rw [SX.S_len]; exact Nat.le_trans (show _ ≤ 100 by omega) (by decide)
      refine or_test (a := decide ((0 : Int) < (m : Int))) (b := decide (((S d).length : Int) < (sz : Int))) (fun Q' q' => ⟨_, rfl, _, _, rfl, rfl, _, rfl, q'⟩) (fun _ Q' q' => ⟨_, rfl, _, rfl, hsl, _, rfl, _, _, rfl, rfl, _, rfl, q'⟩) ?_
      rw [SX.S_len]
      by_cases hgo : 0 < m ∨ d.length < sz
      · have e : (decide ((0 : Int) < (m : Int)) || decide ((d.length : Int) < (sz : Int))) = true := by
          rw [Bool.or_eq_true, decide_eq_true_eq, decide_eq_true_eq]
          omega
        rw [e]
        have hd7 : d.length < 8 := by
          rcases hgo with h | h
          · refine (Nat.pow_lt_pow_iff_right (a := 16) (by decide)).mp (Nat.lt_of_le_of_lt ?_ hm)
            exact Nat.le_mul_of_pos_left _ h
          · omega
        obtain ⟨c, hc1, hc2, hc3⟩ := hex_digit (k := m % 16) (Nat.mod_lt _ (by decide))
        have em : (m : Int) % 16 = ((m % 16 : Nat) : Int) := by omega
        have ed : (m : Int) / 16 = ((m / 16 : Nat) : Int) := by omega
        refine iteT ⟨_, fun _ _ z => z, ?_⟩
        refine ⟨_, rfl, .inl ⟨_, rfl, _, _, rfl, rfl, (by show (0 : Int) < 16; decide), HEX, _, c, rfl, rfl, by decide +kernel, ?_, _, rfl, ⟨#[c]⟩, S d, rfl, rfl, ?_, ?_⟩⟩
        · show atI HEX.cps.toList ((m : Int) % 16) = some c
          rw [em]
          exact atI_nat hc1
        · rw [SX.S_len]
          show 1 + d.length ≤ sizeLine
          exact Nat.le_trans (show _ ≤ 100 by omega) (by decide)
        · refine ⟨_, rfl, _, _, rfl, rfl, ⟨by decide, by decide⟩, ?_⟩
          have hsp : m = 16 * (m / 16) + m % 16 := (Nat.div_add_mod m 16).symm
          refine ⟨8 - (c :: d).length, ?_, m / 16, c :: d, rfl, ?_, ?_, ?_, ?_, ?_, rfl⟩
          · rw [List.length_cons]; omega
          · rw [List.length_cons]; omega
          · intro x hx
            rcases List.mem_cons.mp hx with rfl | hx
            · exact hc2
            · exact hdx x hx
          · rw [hexNum_cons, hc3, List.length_cons, Nat.pow_succ, hNd]
            have e1 : m * 16 ^ d.length = (16 * (m / 16) + m % 16) * 16 ^ d.length := by rw [← hsp]
            rw [e1, Nat.add_mul, Nat.mul_comm 16 (m / 16), Nat.mul_assoc, Nat.mul_comm 16 (16 ^ d.length)]
            omega
          · rw [List.length_cons, Nat.pow_succ, Nat.mul_comm (16 ^ d.length) 16, ← Nat.mul_assoc]
            refine Nat.lt_of_le_of_lt (Nat.mul_le_mul_right _ ?_) hm
            omega
          · have e1 : (⟨#[c]⟩ : Str) ++ S d = S (c :: d) := SX.S_cat [c] d
            show [some (V.int ((m : Int) / 16)), some (V.int (sz : Int)), some (V.str ((⟨#[c]⟩ : Str) ++ S d))] = _
            rw [e1, ed]
      · have e : (decide ((0 : Int) < (m : Int)) || decide ((d.length : Int) < (sz : Int))) = false := by
          rw [Bool.or_eq_false_iff, decide_eq_false_iff_not, decide_eq_false_iff_not]
          omega
        rw [e]
        have m0 : m = 0 := by omega
        subst m0
        refine iteF ⟨_, rfl, S [48, 120], S d, rfl, rfl, ?_, ?_⟩
        · rw [SX.S_len, SX.S_len]
          exact Nat.le_trans (show 2 + d.length ≤ 100 by omega) (by decide)
        · rw [SX.S_cat]
          refine q d ?_ hd8 hdx (by rw [hNd, Nat.zero_mul, Nat.zero_add])
          intro z
          rw [z] at hgo
          exact hgo (.inr z1)
end
theorem sgl_sig : ∀ z ∈ SGL, z ∈ SIGV := by decide +kernel
theorem getL {α : Type} {l : List α} {v : Int} {n : Nat} (h0 : 0 ≤ v) (h1 : v < (n : Int)) (hn : l.length = n) : ∃ x, x ∈ l ∧ ∀ (f : α → V), atI (l.map f) v = some (f x) := by
  obtain ⟨k, rfl, hk⟩ := nat_in h0 h1
  have hk2 : k < l.length := by omega
  refine ⟨l[k], List.getElem_mem hk2, fun f => atI_nat ?_⟩
  rw [List.getElem?_map, List.getElem?_eq_getElem hk2]
  rfl
section
variable {P : Program} {w : World} {K : PySem.W.Frag} {mg : Str → Option Value} {base : Heap}
def sp__law_piece : Sp := fun vs H Q _ => ∃ (st c : Addr), vs = [.ref st] ∧ StOk H st c ∧ ∀ (k : Str) (v : V) (x : List Nat) (H' : Hp) (t : Addr), Piece k v x → StOk H' st c → Keep st c H H' → H t = none → H' t = some (.tup [.str k, v, .str (S x)]) → Q (.ref t) H'
theorem ok__law_piece (T : Top K mg) : FnOk P w K mg base CX0 3 T.a__law_piece T.d__law_piece ["state"]  sp__law_piece := by
  refine T.F__law_piece.ok sc__law_piece (fun vs H Q E h => ?_) (fun cdv A outer s H vs Q E hr h => ?_)
  · obtain ⟨_, _, rfl, _⟩ := h
    rfl
  · obtain ⟨st, c, rfl, hst, q⟩ := h
    have fin : ∀ (k : Str) (v : V) (x : List Nat) (H' : Hp) (t : Addr), Piece k v x → StOk H' st c → Keep st c H H' → H' t = none → Q (.ref t) (upd H' t (.tup [.str k, v, .str (S x)])) := fun k v x H' t hp hs hk nt =>
      q k v x _ t hp (hs.same (same_new nt)) (hk.trans (Keep.same (same_new nt))) (hk.free hs nt) upd_same
    refine ⟨_, (pss_cons (ps_set (i := 1) sc__law_piece.nd rfl (by first | exact Or.inl rfl | exact Or.inr rfl) (pe_call (ok__law_draw T) (hr.mono (by decide)) (by rfl) T.g__law_draw T.F__law_draw.kp T.b__law_draw .nil pass0 (pa_cons (pv 0) (pa_cons pe_int pa_nil))))
  (pss_cons (ps_if (pt_cmpR op_eq (pv 1) pe_int (nomark _))
  (pss_cons (ps_set (i := 2) sc__law_piece.nd rfl (by first | exact Or.inl rfl | exact Or.inr rfl) (pe_call0 (ok__law_words T) (hr.mono (by decide)) (by rfl) T.g__law_words T.F__law_words.kp T.b__law_words .nil pass0))
  (pss_cons (ps_set (i := 3) sc__law_piece.nd rfl (by first | exact Or.inl rfl | exact Or.inr rfl) (pe_ix ix_list (pv 2) (pe_call (ok__law_draw T) (hr.mono (by decide)) (by rfl) T.g__law_draw T.F__law_draw.kp T.b__law_draw .nil pass0 (pa_cons (pv 0) (pa_cons (pe_callB call_len_seq (by rfl) T.m_len PySem.boot_len (pa_cons (pv 2) pa_nil)) pa_nil))) (fun _ _ => rfl)))
  (pss_one (ps_ret (pe_tup (pa_cons pe_str (pa_cons (pv 3) (pa_cons (pv 3) pa_nil))))))))
  pss_nil)
  (pss_cons (ps_if (pt_cmpR op_eq (pv 1) pe_int (nomark _))
  (pss_cons (ps_set (i := 4) sc__law_piece.nd rfl (by first | exact Or.inl rfl | exact Or.inr rfl) (pe_call (ok__law_number T) (hr.mono (by decide)) (by rfl) T.g__law_number T.F__law_number.kp T.b__law_number .nil pass0 (pa_cons (pv 0) pa_nil)))
  (pss_cons (ps_if (pt_cmpR op_eq (pe_call (ok__law_draw T) (hr.mono (by decide)) (by rfl) T.g__law_draw T.F__law_draw.kp T.b__law_draw .nil pass0 (pa_cons (pv 0) (pa_cons pe_int pa_nil))) pe_int (nomark _))
  (pss_one (ps_ret (pe_tup (pa_cons pe_str (pa_cons (pv 4) (pa_cons (pe_call (ok__law_hex T) (hr.mono (by decide)) (by rfl) T.g__law_hex T.F__law_hex.kp T.b__law_hex .nil pass0 (pa_cons (pv 4) (pa_cons (pe_op op_add pe_int (pe_call (ok__law_draw T) (hr.mono (by decide)) (by rfl) T.g__law_draw T.F__law_draw.kp T.b__law_draw .nil pass0 (pa_cons (pv 0) (pa_cons pe_int pa_nil)))) pa_nil))) pa_nil))))))
  pss_nil)
  (pss_one (ps_ret (pe_tup (pa_cons pe_str (pa_cons (pv 4) (pa_cons (pe_callTy call_str_int (by rfl) T.m_str (by decide +kernel) (pa_cons (pv 4) pa_nil)) pa_nil))))))))
  pss_nil)
  (pss_cons (ps_if (pt_cmpR op_lt (pv 1) pe_int (nomark _))
  (pss_cons (ps_set (i := 5) sc__law_piece.nd rfl (by first | exact Or.inl rfl | exact Or.inr rfl) (pe_call (ok__law_name T) (hr.mono (by decide)) (by rfl) T.g__law_name T.F__law_name.kp T.b__law_name .nil pass0 (pa_cons (pv 0) pa_nil)))
  (pss_one (ps_ret (pe_tup (pa_cons pe_str (pa_cons (pv 5) (pa_cons (pv 5) pa_nil)))))))
  pss_nil)
  (pss_cons (ps_set (i := 6) sc__law_piece.nd rfl (by first | exact Or.inl rfl | exact Or.inr rfl) (pe_call0 (ok__law_signs T) (hr.mono (by decide)) (by rfl) T.g__law_signs T.F__law_signs.kp T.b__law_signs .nil pass0))
  (pss_cons (ps_set (i := 7) sc__law_piece.nd rfl (by first | exact Or.inl rfl | exact Or.inr rfl) (pe_ix ix_list (pv 6) (pe_call (ok__law_draw T) (hr.mono (by decide)) (by rfl) T.g__law_draw T.F__law_draw.kp T.b__law_draw .nil pass0 (pa_cons (pv 0) (pa_cons (pe_callB call_len_seq (by rfl) T.m_len PySem.boot_len (pa_cons (pv 6) pa_nil)) pa_nil))) (fun _ _ => rfl)))
  (pss_one (ps_ret (pe_tup (pa_cons pe_str (pa_cons (pv 7) (pa_cons (pv 7) pa_nil)))))))))))), ?_⟩
    refine ⟨_, rfl, st, c, 6, rfl, hst, by decide, by decide, fun v H1 v0 v1 hst1 k1 => ?_⟩
    refine ⟨_, rfl, rfl, _, rfl, ite2 (fun c1 => ?_) (fun c1 => ?_)⟩
    · refine ⟨rfl, fun H2 p s2 np hp => ?_⟩
      have hs2 := hst1.same s2
      have npp := hst1.ne np
      refine ⟨_, rfl, _, rfl, _, rfl, p, RESV.map V.str, rfl, .inl (SqL.of hp), st, c, 23, rfl, hs2, by decide, by decide, fun u H3 u0 u1 hs3 k3 => ?_⟩
      obtain ⟨z, hz, hg⟩ := getL (l := RESV) u0 (n := 23) u1 (by decide)
      have hp3 : H3 p = some (.lst (RESV.map V.str)) := k3 _ _ npp.1 npp.2 hp
      refine ⟨p, _, u, .str z, rfl, rfl, SqL.of hp3, hg V.str, ?_⟩
      refine ⟨_, rfl, _, rfl, by show 3 ≤ sizeLine; decide, fun t nt => ?_⟩
      have e := fin "word" (.str z) z.cps.toList H3 t (.inl (word_ok hz)) hs3 (k1.trans ((Keep.same s2).trans k3)) nt
      rw [← str_of z] at e
      exact e
    refine ⟨_, rfl, rfl, _, rfl, ite2 (fun c2 => ?_) (fun c2 => ?_)⟩
    · refine ⟨_, rfl, st, c, rfl, hst1, fun n H2 hn hs2 k2 => ?_⟩
      refine ⟨_, rfl, st, c, 3, rfl, hs2, by decide, by decide, fun u H3 u0 u1 hs3 k3 => ?_⟩
      have k13 := k1.trans (k2.trans k3)
      refine ⟨rfl, _, rfl, ite2 (fun c3 => ?_) (fun c3 => ?_)⟩
      · refine ⟨_, rfl, _, rfl, _, rfl, st, c, 8, rfl, hs3, by decide, by decide, fun y H4 y0 y1 hs4 k4 => ?_⟩
        obtain ⟨j, rfl, hj⟩ := nat_in (n := 8) y0 y1
        refine ⟨_, _, rfl, rfl, n, 1 + j, ?_, hn, by omega, by omega, fun d d0 d1 d2 d3 => ?_⟩
        · have e : (1 : Int) + (j : Int) = ((1 + j : Nat) : Int) := by omega
          show [V.int (n : Int), V.int (1 + (j : Int))] = _
          rw [e]
        · refine ⟨by show 3 ≤ sizeLine; decide, fun t nt => ?_⟩
          exact fin "number" (.int (n : Int)) _ H4 t (.inl (hex_ok d0 d1 d2 d3 hn)) hs4 (k13.trans k4) nt
      · refine ⟨_, rfl, _, rfl, (n : Int), rfl, ?_, by show 3 ≤ sizeLine; decide, fun t nt => ?_⟩
        · show ((n : Int).natAbs).log2 < 1920
          have e : ((n : Int).natAbs) = n := by omega
          rw [e]
          have hlt : n < 2 ^ 32 := by omega
          by_cases h0 : n = 0
          · rw [h0]
            decide
          · exact Nat.lt_trans ((Nat.log2_lt h0).mpr hlt) (by decide)
        · have e := fin "number" (.int (n : Int)) (TL.numL n) H3 t (.inl (dec_ok hn)) hs3 k13 nt
          have e2 : S (TL.numL n) = Str.ofString (toString ((n : Nat) : Int)) := (SX.num_S n).symm
          rw [e2] at e
          exact e
    refine ⟨_, rfl, _, _, rfl, rfl, _, rfl, ite2 (fun c3 => ?_) (fun c3 => ?_)⟩
    · refine ⟨_, rfl, st, c, rfl, hst1, fun z H2 hz hs2 k2 => ?_⟩
      refine ⟨_, rfl, _, rfl, by show 3 ≤ sizeLine; decide, fun t nt => ?_⟩
      exact fin "name" (.str (S z)) z H2 t (.inl (name_tok hz)) hs2 (k1.trans k2) nt
    · refine ⟨rfl, fun H2 p s2 np hp => ?_⟩
      have hs2 := hst1.same s2
      have npp := hst1.ne np
      refine ⟨_, rfl, _, rfl, _, rfl, p, SGL.map V.str, rfl, .inl (SqL.of hp), st, c, 25, rfl, hs2, by decide, by decide, fun u H3 u0 u1 hs3 k3 => ?_⟩
      obtain ⟨z, hz, hg⟩ := getL (l := SGL) u0 (n := 25) u1 (by decide)
      have hp3 : H3 p = some (.lst (SGL.map V.str)) := k3 _ _ npp.1 npp.2 hp
      refine ⟨p, _, u, .str z, rfl, rfl, SqL.of hp3, hg V.str, ?_⟩
      refine ⟨_, rfl, _, rfl, by show 3 ≤ sizeLine; decide, fun t nt => ?_⟩
      have hP : Piece "sign" (.str z) z.cps.toList := .inr ⟨rfl, by rw [← str_of z], by rw [← str_of z]; exact sgl_sig z hz⟩
      have e := fin "sign" (.str z) z.cps.toList H3 t hP hs3 (k1.trans ((Keep.same s2).trans k3)) nt
      rw [← str_of z] at e
      exact e
def FOUR : List V := [.str "<", .str "~", .str "!", .str "~<"]
def apartB (k k' : Str) (v : V) : Bool := if k ≠ "sign" ∧ k' ≠ "sign" then true else inV v FOUR
def sp__law_apart (K : PySem.W.Frag) : Sp := fun vs H Q _ => ∃ (b a : Addr) (k k' : Str) (v v' x x' : V), vs = [.ref b, .ref a] ∧ SqT K H b [.str k, v, x] ∧ SqT K H a [.str k', v', x'] ∧ flatV v = true ∧ ∀ H', Same H H' → Q (.bl (apartB k k' v)) H'
theorem ok__law_apart (T : Top K mg) : FnOk P w K mg base CX0 1 T.a__law_apart T.d__law_apart ["before", "behind"]  (sp__law_apart K) := by
  refine T.F__law_apart.ok sc__law_apart (fun vs H Q E h => ?_) (fun cdv A outer s H vs Q E hr h => ?_)
  · obtain ⟨_, _, _, _, _, _, _, _, rfl, _⟩ := h
    rfl
  · obtain ⟨b, a, k, k', v, v', x, x', rfl, hb, ha, hf, q⟩ := h
    refine ⟨_, (pss_cons (ps_if (pw_and (pt_cmpR op_ne (pe_ix ix_tup (pv 0) pe_int (fun _ _ => rfl)) pe_str (nomark _)) (pw_and1 (pt_cmpR op_ne (pe_ix ix_tup (pv 1) pe_int (fun _ _ => rfl)) pe_str (nomark _)))).pt
  (pss_one (ps_ret pe_bl))
  pss_nil)
  (pss_one (ps_ret (pe_cmpR op_in_seq (pe_ix ix_tup (pv 0) pe_int (fun _ _ => rfl)) (pe_tup (pa_cons pe_str (pa_cons pe_str (pa_cons pe_str (pa_cons pe_str pa_nil))))) (by with_unfolding_all rfl))))), ?_⟩
    refine and_test (a := !decide (V.str k = V.str "sign")) (b := !decide (V.str k' = V.str "sign")) (fun Q' q' => ⟨_, rfl, b, _, 0, _, rfl, rfl, hb, atI_nat (j := 0) rfl, rfl, _, rfl, q'⟩) (fun _ Q' q' => ⟨_, rfl, a, _, 0, _, rfl, rfl, ha, atI_nat (j := 0) rfl, rfl, _, rfl, q'⟩) ?_
    unfold apartB at q
    by_cases h : k ≠ "sign" ∧ k' ≠ "sign"
    · rw [if_pos h] at q
      have e : (!decide (V.str k = V.str "sign") && !decide (V.str k' = V.str "sign")) = true := by
        rw [decide_eq_false (fun z => h.1 (V.str.inj z)), decide_eq_false (fun z => h.2 (V.str.inj z))]
        rfl
      rw [e]
      exact iteT (q _ (Same.refl _))
    · rw [if_neg h] at q
      have e : (!decide (V.str k = V.str "sign") && !decide (V.str k' = V.str "sign")) = false := by
        by_cases h1 : k = "sign"
        · rw [h1, decide_eq_true rfl]
          rfl
        · have h2 : k' = "sign" := Classical.byContradiction fun z => h ⟨h1, z⟩
          rw [h2, decide_eq_true rfl, Bool.not_true, Bool.and_false]
      rw [e]
      refine iteF ⟨_, rfl, b, _, 1, v, rfl, rfl, hb, atI_nat (j := 1) rfl, by show 4 ≤ sizeLine; decide, fun t nt => ?_⟩
      exact ⟨t, FOUR, rfl, .inr (SqT.of upd_same), hf, rfl, q _ (same_new nt)⟩
def sp__law_newlines : Sp := fun vs H Q _ => ∃ l : List Nat, vs = [.str (S l)] ∧ l.length ≤ 100000 ∧ ∀ H', Same H H' → Q (.int (nl l : Int)) H'
theorem ok__law_newlines (T : Top K mg) : FnOk P w K mg base CX0 1 T.a__law_newlines T.d__law_newlines ["text"]  sp__law_newlines := by
  refine T.F__law_newlines.ok sc__law_newlines (fun vs H Q E h => ?_) (fun cdv A outer s H vs Q E hr h => ?_)
  · obtain ⟨_, rfl, _⟩ := h
    rfl
  · obtain ⟨l, rfl, hl, q⟩ := h
    refine ⟨_, (pss_one (ps_ret (pe_callB call_len_seq (by rfl) T.m_len PySem.boot_len (pa_cons (pe_lc (own := [("char", 1)]) (g := gName 1) rfl sc__law_newlines.nd (pi_str (pv 0)) (blkOk_by (N := ["text", "char"]) (sc := defScope s__law_newlines) (by decide +kernel)) (fun _ _ _ _ _ => pg_name (i := 1) sc__law_newlines.nd rfl (Or.inl rfl)) (fun _ _ _ _ _ => pts_one (pt_cmpR op_eq (pv 1) pe_str (nomark _))) (fun _ _ _ _ _ => (pv 1))) pa_nil)))), ?_⟩
    refine ⟨_, rfl, S l, rfl, fun D hD => ?_⟩
    refine lc_it walk_str (fun i H' => H' = upd H D (.lst (((l.take i).filter (· == 10)).map fun c => V.str ⟨#[c]⟩))) rfl (fun _ _ _ _ => trivial) ?_ ?_
    · rintro i x H' H'' hi rfl ⟨rfl, c, hc, rfl⟩
      have hc' : l[i]? = some c := by
        rw [← hc]
        show _ = l.toArray[i]?
        simp
      have e10 : decide (V.str ⟨#[c]⟩ = V.str "\n") = decide (c = 10) := sgn_eq (c := c) (d := 10)
      refine ⟨rfl, ?_⟩
      refine ⟨_, rfl, rfl, _, rfl, ?_⟩
      rw [e10]
      by_cases h : c = 10
      · rw [decide_eq_true h]
        refine iteT ⟨_, rfl, _, upd_same, ?_, ?_⟩
        · rw [List.length_map]
          refine Nat.lt_of_le_of_lt (List.length_filter_le _ _) ?_
          rw [List.length_take]
          exact Nat.lt_of_le_of_lt (Nat.le_trans (Nat.min_le_right _ _) hl) (by decide)
        · subst h
          rw [upd_upd, List.take_add_one, hc', List.filter_append, List.map_append]
          rfl
      · rw [decide_eq_false h]
        refine iteF ?_
        have e : ([c] : List Nat).filter (· == 10) = [] := by simp [h]
        rw [List.take_add_one, hc', List.filter_append]
        show _ = upd H D (.lst ((((l.take i).filter (· == 10)) ++ ([c] : List Nat).filter (· == 10)).map _))
        rw [e, List.append_nil]
    · rintro H' rfl
      have e : (S l).cps.size = l.length := by simp
      rw [e, List.take_length]
      refine ⟨D, _, rfl, .inl (SqL.of upd_same), ?_⟩
      rw [List.length_map]
      exact q _ (same_new hD)
end
theorem ToksAt.get {H : Hp} : ∀ {as : List Addr} {ts : List TV} {i : Nat} {t : TV}, ToksAt H as ts → ts[i]? = some t → ∃ a, as[i]? = some a ∧ H a = some (.tup [.str t.1, t.2.1, .int (t.2.2 : Int)])
  | [], [], _, _, _, h => by simp at h
  | a :: as, u :: ts, 0, t, x, h => by
    have e : u = t := Option.some.inj h
    subst e
    exact ⟨a, rfl, x.1⟩
  | a :: as, u :: ts, i + 1, t, x, h => ToksAt.get (as := as) (ts := ts) (i := i) x.2 h
  | [], _ :: _, _, _, x, _ => x.elim
  | _ :: _, [], _, _, x, _ => x.elim
theorem val_data {K : PySem.W.Frag} {H : Hp} {v : V} (h : ValOk v) : ∃ (d : PyData) (T : String) (b : Bool), Dp K H v d ∧ TyX K H v (.type T) ∧ kitB T "bool" = some false ∧ kitB T "str" = some b ∧ (∀ (k : Str) n, k.cps.all (· < 0x110000) = true → SeqAt.shaped (.tuple [.str k, d, .int n]) = true) ∧ (∀ k n, PyData.eqv (.tuple [.str k, d, .int n]) (.tuple [.str k, d, .int n]) = true) := by
  rcases h with ⟨z, rfl, _, hz⟩ | ⟨m, rfl, _⟩
  · refine ⟨.str (S z), "str", true, .str _, .base (.str _), by decide +kernel, by decide +kernel, fun k n hk => ?_, fun k n => by simp [PyData.eqv, PyData.eqvAll]⟩
    have hz2 : (S z).cps.all (· < 0x110000) = true := by
      rw [← Array.all_toList, List.all_eq_true]
      intro c hc
      exact decide_eq_true (hz c hc)
    show (((k.cps.all (· < 0x110000)) && (((S z).cps.all (· < 0x110000)) && (true && true))) && decide _) = true
    rw [hk, hz2]
    rfl
  · refine ⟨.int m, "int", false, .int _, .base (.int _), by decide +kernel, by decide +kernel, fun k n hk => ?_, fun k n => by simp [PyData.eqv, PyData.eqvAll]⟩
    show (((k.cps.all (· < 0x110000)) && (true && (true && true))) && decide _) = true
    rw [hk]
    rfl
section
variable {P : Program} {w : World} {K : PySem.W.Frag} {mg : Str → Option Value} {base : Heap}
def sp__law_same (K : PySem.W.Frag) : Sp := fun vs H Q _ => ∃ (a d : Addr) (as bs : List Addr) (ts : List TV), vs = [.ref a, .ref d] ∧ H a = some (.lst (as.map V.ref)) ∧ H d = some (.lst (bs.map V.ref)) ∧ ToksAt H as ts ∧ ToksAt H bs ts ∧ (∀ t ∈ ts, t.1.cps.all (· < 0x110000) = true ∧ ValOk t.2.1) ∧ ts.length ≤ 1000 ∧ Q (.bl true) H
theorem ok__law_same (T : Top K mg) : FnOk P w K mg base CX0 1 T.a__law_same T.d__law_same ["actual", "due"]  (sp__law_same K) := by
  refine T.F__law_same.ok sc__law_same (fun vs H Q E h => ?_) (fun cdv A outer s H vs Q E hr h => ?_)
  · obtain ⟨_, _, _, _, _, rfl, _⟩ := h
    rfl
  · obtain ⟨a, d, as, bs, ts, rfl, ha, hd, hA, hB, hv, hl, q⟩ := h
    have la := hA.len
    have lb := hB.len
    refine ⟨_, (pss_cons (ps_if (pw_or (pt_not (pt_val (pe_callB call_isi (by rfl) T.m_isinstance (by decide +kernel) (pa_cons (pv 0) (pa_cons (pe_ty (T := "list") (by rfl) T.m_list (by decide +kernel)) pa_nil))))) (pw_or1 (pt_cmpR op_ne (pe_callB call_len_seq (by rfl) T.m_len PySem.boot_len (pa_cons (pv 0) pa_nil)) (pe_callB call_len_seq (by rfl) T.m_len PySem.boot_len (pa_cons (pv 1) pa_nil)) (nomark _)))).pt
  (pss_one (ps_ret pe_bl))
  pss_nil)
  (pss_cons (ps_for PassesOwn.never rfl (pi_range1 (by rfl) T.m_range (pa_cons (pe_callB call_len_seq (by rfl) T.m_len PySem.boot_len (pa_cons (pv 1) pa_nil)) pa_nil)) (pg_name (i := 2) sc__law_same.nd rfl (by first | exact Or.inl rfl | exact Or.inr rfl))
  (pss_cons (ps_set (i := 3) sc__law_same.nd rfl (by first | exact Or.inl rfl | exact Or.inr rfl) (pe_ix ix_list (pv 0) (pv 2) (fun _ _ => rfl)))
  (pss_cons (ps_if (pw_or (pt_not (pt_val (pe_callB call_isi (by rfl) T.m_isinstance (by decide +kernel) (pa_cons (pv 3) (pa_cons (pe_ty (T := "tuple") (by rfl) T.m_tuple (by decide +kernel)) pa_nil))))) (pw_or (pt_cmpR op_ne (pe_callB call_len_seq (by rfl) T.m_len PySem.boot_len (pa_cons (pv 3) pa_nil)) pe_int (nomark _)) (pw_or1 (pt_not (pt_val (pe_callB call_isi (by rfl) T.m_isinstance (by decide +kernel) (pa_cons (pe_ix ix_tup (pv 3) pe_int (fun _ _ => rfl)) (pa_cons (pe_ty (T := "str") (by rfl) T.m_str (by decide +kernel)) pa_nil)))))))).pt
  (pss_one (ps_ret pe_bl))
  pss_nil)
  (pss_cons (ps_if (pw_or (pt_val (pe_callB call_isi (by rfl) T.m_isinstance (by decide +kernel) (pa_cons (pe_ix ix_tup (pv 3) pe_int (fun _ _ => rfl)) (pa_cons (pe_ty (T := "bool") (by rfl) T.m_bool (by decide +kernel)) pa_nil)))) (pw_or1 (pt_cmpR op_ne (pe_callB call_isi (by rfl) T.m_isinstance (by decide +kernel) (pa_cons (pe_ix ix_tup (pv 3) pe_int (fun _ _ => rfl)) (pa_cons (pe_ty (T := "str") (by rfl) T.m_str (by decide +kernel)) pa_nil))) (pe_callB call_isi (by rfl) T.m_isinstance (by decide +kernel) (pa_cons (pe_ix ix_tup (pe_ix ix_list (pv 1) (pv 2) (fun _ _ => rfl)) pe_int (fun _ _ => rfl)) (pa_cons (pe_ty (T := "str") (by rfl) T.m_str (by decide +kernel)) pa_nil))) (nomark _)))).pt
  (pss_one (ps_ret pe_bl))
  pss_nil)
  (pss_one (ps_if (pw_or (pt_not (pt_val (pe_callB call_isi (by rfl) T.m_isinstance (by decide +kernel) (pa_cons (pe_ix ix_tup (pv 3) pe_int (fun _ _ => rfl)) (pa_cons (pe_ty (T := "int") (by rfl) T.m_int (by decide +kernel)) pa_nil))))) (pw_or (pt_val (pe_callB call_isi (by rfl) T.m_isinstance (by decide +kernel) (pa_cons (pe_ix ix_tup (pv 3) pe_int (fun _ _ => rfl)) (pa_cons (pe_ty (T := "bool") (by rfl) T.m_bool (by decide +kernel)) pa_nil)))) (pw_or1 (pt_cmpR (op_neD hr.units) (pv 3) (pe_ix ix_list (pv 1) (pv 2) (fun _ _ => rfl)) (nomark _))))).pt
  (pss_one (ps_ret pe_bl))
  pss_nil))))))
  (pss_one (ps_ret pe_bl)))), ?_⟩
    refine or_test (a := false) (b := false) (fun Q' q' => ⟨_, rfl, _, _, _, _, true, rfl, .ty _, .base (.lst ha), kit_ty (by decide +kernel), true, rfl, q'⟩)
      (fun _ Q' q' => ⟨_, rfl, a, _, rfl, .inl (SqL.of ha), _, rfl, d, _, rfl, .inl (SqL.of hd), rfl, false, ?_, q'⟩) ?_
    · rw [List.length_map, List.length_map, la, lb, decide_eq_true rfl]
      rfl
    have hn : (((bs.map V.ref).length : Nat) : Int).toNat = ts.length := by rw [List.length_map, lb]; omega
    refine iteF ⟨_, rfl, d, _, rfl, .inl (SqL.of hd), _, rfl, ?_, ?_, for_range (n := (((bs.map V.ref).length : Nat) : Int).toNat) (fun i σ H' => ∃ y2 y3, σ = [some (.ref a), some (.ref d), y2, y3] ∧ H' = H) ⟨none, none, rfl, rfl⟩ ?_ ?_⟩
    · rw [List.length_map]
      omega
    · rw [List.length_map]
      omega
    · rintro i σ H' hi ⟨y2, y3, rfl, rfl⟩
      rw [hn] at hi
      obtain ⟨t, ht⟩ : ∃ t, ts[i]? = some t := ⟨ts[i], List.getElem?_eq_getElem hi⟩
      obtain ⟨ta, hta1, hta2⟩ := hA.get ht
      obtain ⟨tb, htb1, htb2⟩ := hB.get ht
      have h1 : atI (as.map V.ref) ((0 : Int) + (i : Int)) = some (.ref ta) := at_of (j := i) (by omega) (by rw [List.getElem?_map, hta1]; rfl)
      have h2 : atI (bs.map V.ref) ((0 : Int) + (i : Int)) = some (.ref tb) := at_of (j := i) (by omega) (by rw [List.getElem?_map, htb1]; rfl)
      have sa := SqT.of (K := K) hta2
      have sb := SqT.of (K := K) htb2
      obtain ⟨hk, hval⟩ := hv t (List.mem_of_getElem? ht)
      obtain ⟨dd, ty, b, d1, d2, d3, d4, d5, d6⟩ := val_data (K := K) (H := H') hval
      refine ⟨_, rfl, _, rfl, a, _, _, _, rfl, rfl, SqL.of ha, h1, ?_⟩
      -- the token is a tuple of three, a text first
      dsimp only [gName]
      refine if_or (a := false) (b := false) ?_ ?_ (iteF ?_)
      · intro Q' q'
        exact ⟨_, rfl, _, _, _, _, true, rfl, .ty _, .base (.tup hta2), kit_ty (by decide +kernel), true, rfl, q'⟩
      · intro _ Q' q'
        refine or_test (a := false) (b := false) (fun Q'' q'' => ⟨_, rfl, ta, _, rfl, .inr sa, rfl, _, rfl, q''⟩) ?_ q'
        intro _ Q'' q''
        exact ⟨_, rfl, ta, _, 0, _, rfl, rfl, sa, atI_nat (j := 0) rfl, _, _, _, _, true, rfl, .ty _, .base (.str _), kit_ty (by decide +kernel), true, rfl, q''⟩
      dsimp only [tNext]
      refine if_or (a := false) (b := false) (fun Q' q' => ⟨_, rfl, ta, _, 1, _, rfl, rfl, sa, atI_nat (j := 1) rfl, _, _, _, _, false, rfl, .ty _, d2, kit_ty d3, false, rfl, q'⟩)
        (fun _ Q' q' => ⟨_, rfl, ta, _, 1, _, rfl, rfl, sa, atI_nat (j := 1) rfl, _, _, _, _, b, rfl, .ty _, d2, kit_ty d4, _, rfl, _, rfl, d, _, _, _, rfl, rfl, SqL.of hd, h2, tb, _, 1, _, rfl, rfl, sb, atI_nat (j := 1) rfl, _, _, _, _, b, rfl, .ty _, d2, kit_ty d4, rfl, false, ?_, q'⟩) (iteF ?_)
      · rw [decide_eq_true rfl]
        rfl
      dsimp only [tNext]
      refine if_or (a := false) (b := false) (fun Q' q' => ⟨_, rfl, ta, _, 2, _, rfl, rfl, sa, atI_nat (j := 2) rfl, _, _, _, _, true, rfl, .ty _, .base (.int _), kit_ty (by decide +kernel), true, rfl, q'⟩) ?_ (iteF ?_)
      · intro _ Q' q'
        refine or_test (a := false) (b := false) (fun Q'' q'' => ⟨_, rfl, ta, _, 2, _, rfl, rfl, sa, atI_nat (j := 2) rfl, _, _, _, _, false, rfl, .ty _, .base (.int _), kit_ty (by decide +kernel), false, rfl, q''⟩) ?_ q'
        intro _ Q'' q''
        refine ⟨_, rfl, _, rfl, _, rfl, d, _, _, _, rfl, rfl, SqL.of hd, h2, _, _, .tup sa (.cons (.str _) (.cons d1 (.cons (.int _) .nil))), .tup sb (.cons (.str _) (.cons d1 (.cons (.int _) .nil))), d5 _ _ hk, d5 _ _ hk, false, ?_, q''⟩
        rw [d6]
        rfl
      exact ⟨_, _, rfl, rfl⟩
    · rintro σ H' ⟨y2, y3, rfl, rfl⟩
      exact q
end

end Mine

set_option Elab.async false
set_option linter.all false
set_option maxRecDepth 100000
set_option maxHeartbeats 4000000


namespace Mine
open PySem PySem.Spec PyProof.Rows L2
local macro_rules | `(tactic| walk_at "my rn") => `(tactic| (repeat (first | with_reducible refine Rd.tupN ?_ | with_reducible refine Rd.lstN ?_ | with_reducible refine Rd.cbListOf ?_ | with_reducible refine Rd.cbListOfR ?_ | with_reducible refine Rd.catI ?_ | with_reducible refine Rd.slN ?_ | with_reducible refine Rd.cbSrtI ?_ | with_reducible refine Rd.seq ?_ | with_reducible refine Rd.next ?_ | with_reducible refine Rd.brk ?_ | with_reducible refine Rd.cont ?_ | with_reducible refine Rd.asg ?_ | with_reducible refine Rd.ret ?_ | with_reducible refine Rd.retN ?_ | with_reducible refine Rd.drop ?_ | with_reducible refine Rd.ifs ?_ | with_reducible refine Rd.ife ?_ | with_reducible refine Rd.test ?_ | with_reducible refine Rd.tb_ ?_ | with_reducible refine Rd.bl ?_ | with_reducible refine Rd.bl2 ?_ | with_reducible refine Rd.and_ ?_ | with_reducible refine Rd.or_ ?_ | with_reducible refine Rd.not_ ?_ | with_reducible refine Rd.andV ?_ | with_reducible refine Rd.orV ?_ | with_reducible refine Rd.notV ?_ | with_reducible refine Rd.op ?_ | with_reducible refine Rd.un ?_ | with_reducible refine Rd.I0 ?_ | with_reducible refine Rd.U ?_ | with_reducible refine Rd.ip ?_ | with_reducible refine Rd.c_ ?_ | with_reducible refine Rd.nil ?_ | with_reducible refine Rd.cons ?_ | with_reducible refine Rd.call ?_ | with_reducible refine Rd.cb ?_ | with_reducible refine Rd.bm ?_ | with_reducible refine Rd.bm0 ?_ | with_reducible refine Rd.nopart ?_ | with_reducible refine Rd.part ?_ | with_reducible refine Rd.int1 ?_ | with_reducible refine Rd.ints1 ?_ | with_reducible refine Rd.ints2 ?_ | with_reducible refine Rd.gcons ?_ | with_reducible refine Rd.gnil ?_ | with_reducible refine Rd.sub ?_ | with_reducible refine Rd.isN ?_ | with_reducible refine Rd.chain ?_ | with_reducible refine Rd.rf ?_ | with_reducible refine Rd.tyS ?_ | with_reducible refine Rd.intI ?_ | with_reducible refine Rd.lc ?_ | with_reducible refine Rd.for_ ?_ | with_reducible refine Rd.ilist ?_ | with_reducible refine Rd.itup ?_ | with_reducible refine Rd.irng1 ?_ | with_reducible refine Rd.irng2 ?_ | with_reducible refine Rd.ienum ?_ | with_reducible refine Rd.istr ?_ | with_reducible refine Rd.refA ?_ | with_reducible refine Rd.strA ?_ | with_reducible refine Rd.yes ?_ | with_reducible refine Rd.ifT ?_ | with_reducible refine Rd.ifF ?_ | with_reducible refine Rd.ifnT ?_ | with_reducible refine Rd.ifnF ?_ | with_reducible refine Rd.isi_ii ?_ | with_reducible refine Rd.isi_ib ?_ | with_reducible refine Rd.isi_is ?_ | with_reducible refine Rd.isi_il ?_ | with_reducible refine Rd.isi_it ?_ | with_reducible refine Rd.isi_id ?_ | with_reducible refine Rd.isi_bi ?_ | with_reducible refine Rd.isi_bb ?_ | with_reducible refine Rd.isi_bs ?_ | with_reducible refine Rd.isi_bl ?_ | with_reducible refine Rd.isi_bt ?_ | with_reducible refine Rd.isi_bd ?_ | with_reducible refine Rd.isi_si ?_ | with_reducible refine Rd.isi_sb ?_ | with_reducible refine Rd.isi_ss ?_ | with_reducible refine Rd.isi_sl ?_ | with_reducible refine Rd.isi_st ?_ | with_reducible refine Rd.isi_sd ?_ | with_reducible refine Rd.isi_ni ?_ | with_reducible refine Rd.isi_nb ?_ | with_reducible refine Rd.isi_ns ?_ | with_reducible refine Rd.isi_nl ?_ | with_reducible refine Rd.isi_nt ?_ | with_reducible refine Rd.isi_nd ?_ | with_reducible refine Rd.sl ?_ | with_reducible refine Rd.v0 ?_ | with_reducible refine Rd.v1 ?_ | with_reducible refine Rd.v2 ?_ | with_reducible refine Rd.v3 ?_ | with_reducible refine Rd.v4 ?_ | with_reducible refine Rd.v5 ?_ | with_reducible refine Rd.v6 ?_ | with_reducible refine Rd.v7 ?_ | with_reducible refine Rd.v8 ?_ | with_reducible refine Rd.v9 ?_ | with_reducible refine Rd.v10 ?_ | with_reducible refine Rd.v11 ?_ | with_reducible refine Rd.v12 ?_ | with_reducible refine Rd.v13 ?_ | with_reducible refine Rd.v14 ?_ | with_reducible refine Rd.v15 ?_ | with_reducible refine Rd.n0 ?_ | with_reducible refine Rd.n1 ?_ | with_reducible refine Rd.n2 ?_ | with_reducible refine Rd.n3 ?_ | with_reducible refine Rd.n4 ?_ | with_reducible refine Rd.n5 ?_ | with_reducible refine Rd.n6 ?_ | with_reducible refine Rd.n7 ?_ | with_reducible refine Rd.n8 ?_ | with_reducible refine Rd.n9 ?_ | with_reducible refine Rd.n10 ?_ | with_reducible refine Rd.n11 ?_ | with_reducible refine Rd.n12 ?_ | with_reducible refine Rd.n13 ?_ | with_reducible refine Rd.n14 ?_ | with_reducible refine Rd.n15 ?_ | with_reducible refine Rd.g0 ?_ | with_reducible refine Rd.g1 ?_ | with_reducible refine Rd.g2 ?_ | with_reducible refine Rd.g3 ?_ | with_reducible refine Rd.g4 ?_ | with_reducible refine Rd.g5 ?_ | with_reducible refine Rd.g6 ?_ | with_reducible refine Rd.g7 ?_ | with_reducible refine Rd.g8 ?_ | with_reducible refine Rd.g9 ?_ | with_reducible refine Rd.g10 ?_ | with_reducible refine Rd.g11 ?_ | with_reducible refine Rd.g12 ?_ | with_reducible refine Rd.g13 ?_ | with_reducible refine Rd.g14 ?_ | with_reducible refine Rd.g15 ?_ | ((with_reducible refine Rd.eq ?_ ?_); exact rfl) | ((with_reducible refine Rd.ne ?_ ?_); exact rfl) | ((with_reducible refine Rd.szA ?_ ?_); exact Nat.le_of_ble_eq_true rfl) | ((with_reducible refine Rd.I ?_ ?_); first | assumption | decide | exact Or.inr (by decide +kernel) | exact Or.inl (by decide +kernel) | exact ⟨by decide, by decide⟩ | exact ⟨by decide, by decide, by decide⟩ | omega) | ((with_reducible apply Rd.tyL); first | assumption | exact upd_same) | ((with_reducible apply Rd.tyLq); assumption) | ((with_reducible apply Rd.ixL); (first | assumption | exact upd_same); exact rfl) | ((with_reducible apply Rd.ixT); (first | assumption | exact upd_same); exact rfl) | ((with_reducible apply Rd.ixLq); assumption; exact rfl) | ((with_reducible apply Rd.ixTq); assumption; exact rfl) | ((with_reducible apply Rd.gtup); (first | assumption | exact upd_same); exact rfl) | ((with_reducible apply Rd.gtupq); assumption; exact rfl) | ((with_reducible apply Rd.sqAq); assumption) | ((with_reducible apply Rd.stAq); assumption) | ((with_reducible apply Rd.enAq); assumption) | ((with_reducible apply Rd.lenLq); assumption) | ((with_reducible apply Rd.lenTq); assumption) | ((with_reducible apply Rd.sqA); first | assumption | exact upd_same) | ((with_reducible apply Rd.stA); first | assumption | exact upd_same) | ((with_reducible apply Rd.enA); first | assumption | exact upd_same) | ((with_reducible apply Rd.lenL); first | assumption | exact upd_same) | ((with_reducible apply Rd.lenT); first | assumption | exact upd_same) | ((with_reducible refine Rd.nwT ?_ ?_); exact Nat.le_of_ble_eq_true rfl) | ((with_reducible refine Rd.nwL ?_ ?_); exact Nat.le_of_ble_eq_true rfl) | ((with_reducible apply Rd.listOf); assumption) | ((with_reducible apply Rd.listOfq); assumption) | ((with_reducible apply Rd.slo); assumption) | ((with_reducible apply Rd.slq); assumption) | ((with_reducible apply Rd.srtI); assumption) | ((with_reducible apply Rd.srtIo); assumption) | ((with_reducible refine Rd.isi_li (by assumption) ?_)) | ((with_reducible refine Rd.isi_lb (by assumption) ?_)) | ((with_reducible refine Rd.isi_ls (by assumption) ?_)) | ((with_reducible refine Rd.isi_ll (by assumption) ?_)) | ((with_reducible refine Rd.isi_lt (by assumption) ?_)) | ((with_reducible refine Rd.isi_ld (by assumption) ?_)) | ((with_reducible refine Rd.isi_ti (by assumption) ?_)) | ((with_reducible refine Rd.isi_tb (by assumption) ?_)) | ((with_reducible refine Rd.isi_ts (by assumption) ?_)) | ((with_reducible refine Rd.isi_tl (by assumption) ?_)) | ((with_reducible refine Rd.isi_tt (by assumption) ?_)) | ((with_reducible refine Rd.isi_td (by assumption) ?_)))))
/-! ### spell -/
def strOf : V → Str
  | .str z => z
  | .int i => toString i
  | _ => ""
theorem cut_last (xs : List V) (y : V) : cutV (xs ++ [y]) none (some (-1)) = xs := by
  unfold cutV
  have e : HT.sIx (xs ++ [y]).length (xs ++ [y]).length (some (-1)) = xs.length := by
    simp only [HT.sIx]
    rw [if_pos (by decide), List.length_append, List.length_singleton]
    omega
  rw [e, HT.sIx_none]
  show ((xs ++ [y]).drop 0).take (xs.length - 0) = xs
  rw [List.drop_zero, Nat.sub_zero]
  exact List.take_left
theorem str_len {v : V} (h : ValOk v) : (strOf v).length ≤ 20 := by
  rcases h with ⟨z, rfl, hz, _⟩ | ⟨m, rfl, hm⟩
  · show (S z).length ≤ 20
    rw [SX.S_len]
    omega
  · show (Str.ofString (toString ((m : Nat) : Int))).length ≤ 20
    rw [SX.num_S m, SX.S_len]
    exact Nat.le_trans (TL.numL_len (k := 10) (by decide) (Nat.lt_of_le_of_lt hm (by decide))) (by decide)
theorem sum_le {l : List Nat} {b : Nat} (h : ∀ x ∈ l, x ≤ b) : l.sum ≤ l.length * b := by
  induction l with
  | nil => simp
  | cons a r ih =>
    rw [List.sum_cons, List.length_cons, Nat.succ_mul]
    have h1 := h a List.mem_cons_self
    have h2 := ih fun x hx => h x (List.mem_cons_of_mem _ hx)
    omega
theorem log_small {m : Nat} (h : m ≤ 4294967295) : ((m : Int).natAbs).log2 < 1920 := by
  have e : ((m : Int).natAbs) = m := by omega
  rw [e]
  have hlt : m < 2 ^ 32 := by omega
  by_cases h0 : m = 0
  · rw [h0]
    decide
  · exact Nat.lt_trans ((Nat.log2_lt h0).mpr hlt) (by decide)
theorem join_ok {vs : List V} (hv : ∀ v ∈ vs, ValOk v) (hl : vs.length ≤ 1000) : ((vs.map strOf).map (·.length)).sum + (vs.map strOf).length * (" " : Str).length ≤ 16777216 := by
  have h1 := sum_le (l := (vs.map strOf).map (·.length)) (b := 20) (by
    intro x hx
    obtain ⟨z, hz, rfl⟩ := List.mem_map.mp hx
    obtain ⟨v, hv2, rfl⟩ := List.mem_map.mp hz
    exact str_len (hv v hv2))
  rw [List.length_map, List.length_map] at h1
  rw [List.length_map]
  show _ + vs.length * 1 ≤ _
  omega
section
variable {P : Program} {w : World} {K : PySem.W.Frag} {mg : Str → Option Value} {base : Heap}
def sp__spelled : Sp := fun vs H Q _ => ∃ v, vs = [v] ∧ ValOk v ∧ ∀ H', Same H H' → Q (.str (strOf v)) H'
theorem ok__spelled (T : Top K mg) : FnOk P w K mg base CX0 2 T.a__spelled T.d__spelled ["value"]  sp__spelled := by
  refine T.F__spelled.ok sc__spelled (fun vs H Q E h => ?_) (fun cdv A outer s H vs Q E hr h => ?_)
  · obtain ⟨_, rfl, _⟩ := h
    rfl
  · obtain ⟨v, rfl, hv, q⟩ := h
    refine ⟨_, (pss_one (ps_ret (pe_ifExp (pt_val (pe_callB call_isi (by rfl) T.m_isinstance (by decide +kernel) (pa_cons (pv 0) (pa_cons (pe_ty (T := "int") (by rfl) T.m_int (by decide +kernel)) pa_nil)))) (pe_call (ok_decimal T) (hr.mono (by decide)) (by rfl) T.g_decimal T.F_decimal.kp T.b_decimal .nil pass0 (pa_cons (pv 0) pa_nil)) (pv 0)))), ?_⟩
    rw [show ∀ a0 : V, L2.start ["value"] [a0] = [some a0] from fun _ => rfl]
    rcases hv with ⟨z, rfl, hz, _⟩ | ⟨m, rfl, hm⟩
    · walk_at "my rn"
      exact q _ (Same.refl _)
    · walk_at "my rn"
      refine ⟨_, rfl, ?_, fun z H' hz he sm => ?_⟩
      · exact Nat.lt_of_le_of_lt (show (m : Int).natAbs ≤ 4294967295 by omega) (Nat.lt_of_lt_of_le (show 4294967295 < 2 ^ 32 by decide) (Nat.pow_le_pow_right (by decide) (by decide)))
      · have e := he (by omega) (by omega)
        subst e
        exact q _ sm
def sp_spell : Sp := fun vs H Q _ => ∃ (d : Addr) (bs : List Addr) (ts : List TV) (e : Nat), vs = [.ref d] ∧ H d = some (.lst (bs.map V.ref)) ∧ ToksAt H bs (ts ++ [endT e]) ∧ (∀ t ∈ ts, ValOk t.2.1) ∧ ts.length ≤ 1000 ∧ ∀ H', Same H H' → Q (.str (Txt.join " " ((ts.map fun t => t.2.1).map strOf))) H'
theorem ok_spell (T : Top K mg) : FnOk P w K mg base CX0 3 T.a_spell T.d_spell ["tokens"]  sp_spell := by
  refine T.F_spell.ok sc_spell (fun vs H Q E h => ?_) (fun cdv A outer s H vs Q E hr h => ?_)
  · obtain ⟨_, _, _, _, rfl, _⟩ := h
    rfl
  · obtain ⟨d, bs, ts, e, rfl, hd, hB, hv, hl, q⟩ := h
    have lb := hB.len
    rw [List.length_append, List.length_singleton] at lb
    obtain ⟨bs', b, rfl⟩ : ∃ bs' b, bs = bs' ++ [b] := ⟨bs.dropLast, bs.getLast (by intro z; rw [z] at lb; simp at lb), (List.dropLast_concat_getLast _).symm⟩
    rw [List.length_append, List.length_singleton] at lb
    refine ⟨_, (pss_one (ps_ret (pe_bm PySem.F.plainAttrs_str PySem.F.slot_str_join PySem.F.type_str_join mt_join pe_str (pa_cons (pe_lc (own := [("_", 1), ("value", 2), ("_", 1)]) (g := (gTup K 3 (gCons (gName 1) (gCons (gName 2) (gCons (gName 1) gNil))))) (tt := tYes) rfl sc_spell.nd (pi_list (pe_slice sl_list (pv 0) po_none (po_some (pe_un un_neg pe_int)))) (blkOk_by (N := ["tokens", "_", "value"]) (sc := defScope s_spell) (by decide +kernel)) (fun _ _ _ _ _ => (pg_tup rfl (pgs_cons (pg_name (i := 1) sc_spell.nd rfl (Or.inl rfl)) (pgs_cons (pg_name (i := 2) sc_spell.nd rfl (Or.inl rfl)) (pgs_cons (pg_name (i := 1) sc_spell.nd rfl (Or.inl rfl)) pgs_nil))))) (fun _ _ _ _ _ => pts_nil) (fun _ _ _ _ _ => (pe_call (ok__spelled T) (hr.mono (by decide)) (by rfl) T.g__spelled T.F__spelled.kp T.b__spelled .nil pass0 (pa_cons (pv 2) pa_nil)))) pa_nil)))), ?_⟩
    rw [show ∀ a0 : V, L2.start ["tokens", "_", "value"] [a0] = [some a0, none, none] from fun _ => rfl]
    have ec : cutV ((bs' ++ [b]).map V.ref) none (some (-1)) = bs'.map V.ref := by
      rw [List.map_append]
      exact cut_last _ _
    walk_at "my rn"
    intro p H1 np s1 hp
    rw [ec] at hp
    walk_at "my rn"
    intro D nD
    have lbs : bs'.length = ts.length := by omega
    refine Rd.lc_rel (walk_list (xs := bs'.map V.ref)) (fun i v _ => ∀ t, ts[i]? = some t → v = .str (strOf t.2.1)) nD (by rw [List.length_map]; omega) (fun _ _ _ _ h _ => h) (fun H b => (b.to nD).seq (SqL.of hp)) (fun i x H3 H4 Kt hi b hDl y kt => ?_) (fun H5 ms lm hm s5 hD5 => ?_)
    · obtain ⟨rfl, hx⟩ := y
      rw [List.length_map] at hi
      obtain ⟨t, ht⟩ : ∃ t, ts[i]? = some t := ⟨_, List.getElem?_eq_getElem (by omega)⟩
      obtain ⟨a, ha1, ha2⟩ := hB.get (i := i) (t := t) (by rw [List.getElem?_append_left (by omega)]; exact ht)
      rw [List.getElem?_append_left (by omega)] at ha1
      rw [List.getElem?_map, ha1] at hx
      cases hx
      have sa := (s1.trans (b.to nD)) _ _ ha2
      simp only [List.map_cons, List.map_nil, L2.wipe, List.set_cons_succ, List.set_cons_zero]
      refine Rd.gtup sa rfl ?_
      walk_at "my rn"
      refine ⟨rfl, ?_⟩
      walk_at "my rn"
      refine ⟨_, rfl, hv t (List.mem_of_getElem? ht), fun H5 s5 => ?_⟩
      refine kt _ _ (fun t2 e2 => ?_) s5
      rw [ht] at e2
      cases e2
      rfl
    · have em : ms = ((ts.map fun t => t.2.1).map strOf).map V.str := by
        refine List.ext_getElem? fun i => ?_
        rw [List.map_map, List.map_map, List.getElem?_map]
        rw [List.length_map] at lm
        by_cases hi : i < ts.length
        · obtain ⟨v, hv2⟩ : ∃ v, ms[i]? = some v := ⟨_, List.getElem?_eq_getElem (by omega)⟩
          obtain ⟨t, ht⟩ : ∃ t, ts[i]? = some t := ⟨_, List.getElem?_eq_getElem hi⟩
          rw [hv2, ht, hm i v hv2 t ht]
          rfl
        · rw [List.getElem?_eq_none (by omega), List.getElem?_eq_none (by omega)]
          rfl
      subst em
      walk_at "my rn"
      refine ⟨" ", D, (ts.map fun t => t.2.1).map strOf, rfl, rfl, .inl (SqL.of hD5), join_ok (fun v hv2 => ?_) (by rw [List.length_map]; exact hl), q _ (s1.trans s5)⟩
      obtain ⟨t, ht, rfl⟩ := List.mem_map.mp hv2
      exact hv t ht
end
/-! ### the text that the law builds -/
def Stop (rest : List Nat) : Prop := rest = [] ∨ ∃ c r, rest = c :: r ∧ (c = 32 ∨ c = 10 ∨ c = 35)
def SepO : Option (Str × V) → List Nat → Prop
  | none, _ => True
  | some (k, v), rest => if k = "sign" then (inV v FOUR = false ∨ Stop rest) else (rest = [] ∨ ∃ c r, rest = c :: r ∧ inRun c = false)
structure Built (text : List Nat) (due : List TV) (last : Option (Str × V)) : Prop where
  ext : ∀ rest ts e, SepO last rest → Lex rest (1 + nl text) ts e → Lex (text ++ rest) 1 (due ++ ts) e
theorem stop_sep {last : Option (Str × V)} {rest : List Nat} (h : Stop rest) : SepO last rest := by
  cases last with
  | none => trivial
  | some p =>
    obtain ⟨k, v⟩ := p
    show if k = "sign" then _ else _
    split
    · exact .inr h
    · rcases h with h | ⟨c, r, h, hc⟩
      · exact .inl h
      · refine .inr ⟨c, r, h, ?_⟩
        rcases hc with rfl | rfl | rfl <;> decide +kernel
theorem built_nil : Built [] [] none := ⟨fun rest ts e _ h => h⟩
theorem built_gap {text z : List Nat} {due : List TV} {last : Option (Str × V)} (b : Built text due last) (g : GapOk z) : Built (text ++ z) due none := by
  refine ⟨fun rest ts e _ h => ?_⟩
  rw [List.append_assoc]
  refine b.ext _ _ _ (stop_sep ?_) (g.lex _ _ _ _ ?_)
  · obtain ⟨c, r, rfl, hc⟩ := g.head
    exact .inr ⟨c, r ++ rest, rfl, hc⟩
  · rw [nl_app, ← Nat.add_assoc] at h
    exact h
theorem nl_rep (k : Nat) : nl (List.replicate k 10) = k := by
  unfold nl
  rw [List.filter_replicate]
  simp
theorem built_lines {text : List Nat} {due : List TV} (b : Built text due none) (k : Nat) : Built (text ++ List.replicate k 10) due none := by
  refine ⟨fun rest ts e _ h => ?_⟩
  rw [List.append_assoc]
  refine b.ext _ _ _ trivial ?_
  rw [nl_app, nl_rep] at h
  have key : ∀ k n, Lex rest (n + k) ts e → Lex (List.replicate k 10 ++ rest) n ts e := by
    intro k
    induction k with
    | zero => intro n h; exact h
    | succ k ih => intro n h; exact .nl (ih (n + 1) (by rw [Nat.add_assoc, Nat.add_comm 1 k]; exact h))
  exact key k _ (by rw [Nat.add_assoc]; exact h)
theorem tw_run {x rest : List Nat} (h : ∀ c ∈ x, inRun c = true) (hs : rest = [] ∨ ∃ c r, rest = c :: r ∧ inRun c = false) : (x ++ rest).takeWhile inRun = x ∧ (x ++ rest).dropWhile inRun = rest := by
  rw [List.takeWhile_append_of_pos h, List.dropWhile_append_of_pos h]
  rcases hs with rfl | ⟨c, r, rfl, hc⟩
  · simp
  · rw [List.takeWhile_cons, List.dropWhile_cons, hc]
    simp
theorem run_lex {k : Str} {v : V} {x rest : List Nat} {n e : Nat} {ts : List TV} (p : RunP k v x) (hs : rest = [] ∨ ∃ c r, rest = c :: r ∧ inRun c = false) (h : Lex rest n ts e) : Lex (x ++ rest) n ((k, v, n) :: ts) e := by
  obtain ⟨t1, t2⟩ := tw_run p.all hs
  obtain ⟨c, r, rfl, hc⟩ := p.head
  refine .run (k := k) (v := v) hc ?_ ?_
  · show runTok ((c :: r ++ rest).takeWhile inRun) = _
    rw [t1]
    exact p.tok
  · show Lex ((c :: r ++ rest).dropWhile inRun) n ts e
    rw [t2]
    exact h
def SIGL : List (List Nat) := SIGV.map fun z => z.cps.toList
def FOURL : List (List Nat) := [[60], [126], [33], [126, 60]]
def sigOk (i : Nat) : Bool :=
  match SIGL[i]? with
  | none => false
  | some z => (match z with | [] => false | c :: _ => decide (c ≠ 10 ∧ c ≠ 32 ∧ c ≠ 35) && !(isLet c || isDig c) && !inRun c) && nl z == 0 && decide (z.length ≤ 3) && z.all (fun c => decide (c < 128)) &&
    (SIGL.take i).all fun s => if s.length ≤ z.length then !hd s z else (!hd z s || (FOURL.contains z && match s[z.length]? with | some c => decide (c ≠ 10 ∧ c ≠ 32 ∧ c ≠ 35) | none => false))
theorem sig_all : (List.range 25).all sigOk = true := by decide +kernel
theorem hd_short {s z rest : List Nat} (h : s.length ≤ z.length) : hd s (z ++ rest) = hd s z := by
  unfold hd
  rw [List.take_append_of_le_length h]
theorem hd_long {s z rest : List Nat} (h : z.length < s.length) (hh : hd s (z ++ rest) = true) : hd z s = true ∧ s[z.length]? = rest[0]? := by
  have e := beq_iff_eq.mp hh
  have e2 : s = z ++ rest.take (s.length - z.length) := by
    conv => lhs; rw [← e]
    rw [List.take_append, List.take_of_length_le (Nat.le_of_lt h)]
  constructor
  · unfold hd
    rw [beq_iff_eq]
    conv => lhs; rw [e2]
    exact List.take_left
  · conv => lhs; rw [e2]
    rw [List.getElem?_append_right (Nat.le_refl _), Nat.sub_self, List.getElem?_take]
    rw [if_pos (by omega)]
theorem sign_lex {x rest : List Nat} {n e : Nat} {ts : List TV} (hx : S x ∈ SIGV) (hs : inV (.str (S x)) FOUR = false ∨ Stop rest) (h : Lex rest n ts e) : Lex (x ++ rest) n ((("sign" : Str), V.str (S x), n) :: ts) e := by
  obtain ⟨i, hi⟩ := List.getElem?_of_mem hx
  have hi25 : i < 25 := (List.getElem?_eq_some_iff.mp hi).1
  have ok := List.all_eq_true.mp sig_all i (List.mem_range.mpr hi25)
  have hL : SIGL[i]? = some x := by
    unfold SIGL
    rw [List.getElem?_map, hi]
    rfl
  unfold sigOk at ok
  rw [hL] at ok
  cases x with
  | nil => cases ok
  | cons c r =>
    have ok2 : ((decide (c ≠ 10 ∧ c ≠ 32 ∧ c ≠ 35) && !(isLet c || isDig c) && !inRun c) && nl (c :: r) == 0 && decide ((c :: r).length ≤ 3) && (c :: r).all (fun c => decide (c < 128)) &&
      (SIGL.take i).all fun s => if s.length ≤ (c :: r).length then !hd s (c :: r) else (!hd (c :: r) s || (FOURL.contains (c :: r) && match s[(c :: r).length]? with | some c => decide (c ≠ 10 ∧ c ≠ 32 ∧ c ≠ 35) | none => false))) = true := ok
    simp only [Bool.and_eq_true, decide_eq_true_eq, Bool.not_eq_true'] at ok2
    obtain ⟨⟨⟨⟨⟨⟨⟨n1, n2, n3⟩, hcl⟩, _⟩, _⟩, _⟩, _⟩, hall⟩ := ok2
    have hsg : signOf (c :: r ++ rest) = some (S (c :: r)) := by
      unfold signOf
      rw [List.find?_eq_some_iff_append]
      obtain ⟨hi1, hi2⟩ := List.getElem?_eq_some_iff.mp hi
      refine ⟨?_, SIGV.take i, SIGV.drop (i + 1), ?_, ?_⟩
      · unfold hd
        rw [beq_iff_eq]
        exact List.take_left
      · conv => lhs; rw [← List.take_append_drop i SIGV, List.drop_eq_getElem_cons hi1, hi2]
      · intro s hs1
        have hs2 : s.cps.toList ∈ SIGL.take i := by
          unfold SIGL
          rw [← List.map_take]
          exact List.mem_map_of_mem hs1
        have h3 := List.all_eq_true.mp hall _ hs2
        cases hh : hd s.cps.toList (c :: r ++ rest) with
        | false => rfl
        | true =>
          exfalso
          by_cases hlen : s.cps.toList.length ≤ (c :: r).length
          · rw [if_pos hlen, ← hd_short (rest := rest) hlen, hh] at h3
            cases h3
          · rw [if_neg hlen] at h3
            obtain ⟨g1, g2⟩ := hd_long (by omega) hh
            rw [g1, Bool.not_true, Bool.false_or, Bool.and_eq_true] at h3
            obtain ⟨f1, f2⟩ := h3
            rw [g2] at f2
            have hfour : inV (.str (S (c :: r))) FOUR = true := by
              have f3 : (c :: r) ∈ FOURL := List.contains_iff_mem.mp f1
              have f4 : FOURL.all (fun z => inV (.str (S z)) FOUR) = true := by decide +kernel
              exact List.all_eq_true.mp f4 _ f3
            rcases hs with hs | hs | ⟨d, r', hs, hd1⟩
            · rw [hfour] at hs
              cases hs
            · rw [hs] at f2
              cases f2
            · rw [hs] at f2
              have f5 := of_decide_eq_true f2
              omega
    refine .sgn n1 n2 n3 hcl hsg ?_
    show Lex ((c :: r ++ rest).drop (S (c :: r)).length) n ts e
    rw [SX.S_len, List.drop_left]
    exact h
theorem sign_facts {x : List Nat} (hx : S x ∈ SIGV) : (∃ c r, x = c :: r ∧ inRun c = false) ∧ nl x = 0 ∧ x.length ≤ 3 ∧ ∀ c ∈ x, c < 128 := by
  obtain ⟨i, hi⟩ := List.getElem?_of_mem hx
  have hi25 : i < 25 := (List.getElem?_eq_some_iff.mp hi).1
  have ok := List.all_eq_true.mp sig_all i (List.mem_range.mpr hi25)
  have hL : SIGL[i]? = some x := by
    unfold SIGL
    rw [List.getElem?_map, hi]
    rfl
  unfold sigOk at ok
  rw [hL] at ok
  cases x with
  | nil => cases ok
  | cons c r =>
    have ok2 : ((decide (c ≠ 10 ∧ c ≠ 32 ∧ c ≠ 35) && !(isLet c || isDig c) && !inRun c) && nl (c :: r) == 0 && decide ((c :: r).length ≤ 3) && (c :: r).all (fun c => decide (c < 128)) &&
      (SIGL.take i).all fun s => if s.length ≤ (c :: r).length then !hd s (c :: r) else (!hd (c :: r) s || (FOURL.contains (c :: r) && match s[(c :: r).length]? with | some c => decide (c ≠ 10 ∧ c ≠ 32 ∧ c ≠ 35) | none => false))) = true := ok
    simp only [Bool.and_eq_true, decide_eq_true_eq, Bool.not_eq_true', beq_iff_eq] at ok2
    obtain ⟨⟨⟨⟨⟨⟨_, _⟩, hr⟩, h0⟩, h3⟩, h4⟩, _⟩ := ok2
    exact ⟨⟨c, r, rfl, hr⟩, h0, h3, fun d hd => of_decide_eq_true (List.all_eq_true.mp h4 d hd)⟩
/-- a piece joins the text -/
theorem built_piece {text x : List Nat} {due : List TV} {last : Option (Str × V)} {k : Str} {v : V} (b : Built text due last) (p : Piece k v x) (hs : ∀ rest, SepO last (x ++ rest)) : Built (text ++ x) (due ++ [(k, v, 1 + nl text)]) (some (k, v)) := by
  refine ⟨fun rest ts e hr h => ?_⟩
  rw [List.append_assoc, List.append_assoc]
  refine b.ext _ _ _ (hs rest) ?_
  have hr2 : if k = "sign" then (inV v FOUR = false ∨ Stop rest) else (rest = [] ∨ ∃ c r, rest = c :: r ∧ inRun c = false) := hr
  rw [nl_app] at h
  rcases p with p | ⟨rfl, rfl, hx⟩
  · rw [p.line] at h
    rw [if_neg p.kind] at hr2
    exact run_lex p hr2 h
  · rw [(sign_facts hx).2.1] at h
    rw [if_pos rfl] at hr2
    exact sign_lex hx hr2 h
theorem piece_sep {k k' : Str} {v v' : V} {x x' : List Nat} (p' : Piece k' v' x') (ha : apartB k k' v = false) : ∀ rest, SepO (some (k, v)) (x' ++ rest) := fun rest => by
  unfold apartB at ha
  split at ha
  · cases ha
  rename_i h
  show if k = "sign" then _ else _
  by_cases hk : k = "sign"
  · rw [if_pos hk]
    exact .inl ha
  · rw [if_neg hk]
    have hk' : k' = "sign" := Classical.byContradiction fun z => h ⟨hk, z⟩
    rcases p' with p' | ⟨_, _, hx⟩
    · exact absurd hk' p'.kind
    · obtain ⟨⟨c, r, rfl, hc⟩, _⟩ := sign_facts hx
      exact .inr ⟨c, r ++ rest, rfl, hc⟩
theorem piece_len {k : Str} {v : V} {x : List Nat} (p : Piece k v x) : x.length ≤ 16 ∧ ValOk v ∧ k.cps.all (· < 0x110000) = true := by
  rcases p with p | ⟨rfl, rfl, hx⟩
  · exact ⟨p.len, p.val, p.kst⟩
  · obtain ⟨_, _, h3, h4⟩ := sign_facts hx
    exact ⟨by omega, .inl ⟨x, rfl, by omega, fun c hc => Nat.lt_trans (h4 c hc) (by decide)⟩, by decide +kernel⟩

end Mine

set_option Elab.async false
set_option linter.all false
set_option maxRecDepth 100000
set_option maxHeartbeats 4000000


namespace Mine
open PySem PySem.Spec PyProof.Rows L2
abbrev PT := Str × V × List Nat
def PcsAt (H : Hp) : List Addr → List PT → Prop
  | [], [] => True
  | a :: as, t :: ts => H a = some (.tup [.str t.1, t.2.1, .str (S t.2.2)]) ∧ PcsAt H as ts
  | _, _ => False
theorem PcsAt.mono {H H' : Hp} (h : ∀ a xs, H a = some (.tup xs) → H' a = some (.tup xs)) : ∀ {as : List Addr} {ts : List PT}, PcsAt H as ts → PcsAt H' as ts
  | [], [], _ => trivial
  | a :: as, t :: ts, x => ⟨h _ _ x.1, PcsAt.mono h x.2⟩
  | [], _ :: _, x => x.elim
  | _ :: _, [], x => x.elim
theorem PcsAt.snoc {H : Hp} {a : Addr} {t : PT} (h : H a = some (.tup [.str t.1, t.2.1, .str (S t.2.2)])) : ∀ {as : List Addr} {ts : List PT}, PcsAt H as ts → PcsAt H (as ++ [a]) (ts ++ [t])
  | [], [], _ => ⟨h, trivial⟩
  | b :: as, u :: ts, x => ⟨x.1, PcsAt.snoc h x.2⟩
  | [], _ :: _, x => x.elim
  | _ :: _, [], x => x.elim
theorem PcsAt.len {H : Hp} : ∀ {as : List Addr} {ts : List PT}, PcsAt H as ts → as.length = ts.length
  | [], [], _ => rfl
  | b :: as, u :: ts, x => by rw [List.length_cons, List.length_cons, PcsAt.len x.2]
  | [], _ :: _, x => x.elim
  | _ :: _, [], x => x.elim
theorem PcsAt.get {H : Hp} : ∀ {as : List Addr} {ts : List PT} {i : Nat} {t : PT}, PcsAt H as ts → ts[i]? = some t → ∃ a, as[i]? = some a ∧ H a = some (.tup [.str t.1, t.2.1, .str (S t.2.2)])
  | [], [], _, _, _, h => by simp at h
  | a :: as, u :: ts, 0, t, x, h => by
    have e : u = t := Option.some.inj h
    subst e
    exact ⟨a, rfl, x.1⟩
  | a :: as, u :: ts, i + 1, t, x, h => PcsAt.get (as := as) (ts := ts) (i := i) x.2 h
  | [], _ :: _, _, _, x, _ => x.elim
  | _ :: _, [], _, _, x, _ => x.elim
def lastO (pcs : List PT) : Option (Str × V) := pcs.getLast?.map fun p => (p.1, p.2.1)
structure HpOk (H : Hp) (st c d pp : Addr) (bs ps : List Addr) (dts : List TV) (pcs : List PT) : Prop where
  sok : StOk H st c
  nd : d ≠ st ∧ d ≠ c
  np : pp ≠ st ∧ pp ≠ c
  ndp : d ≠ pp
  hd : H d = some (.lst (bs.map V.ref))
  hp : H pp = some (.lst (ps.map V.ref))
  hB : ToksAt H bs dts
  hP : PcsAt H ps pcs
theorem StOk.tup {H : Hp} {st c : Addr} (s : StOk H st c) {a : Addr} {xs : List V} (h : H a = some (.tup xs)) : a ≠ st ∧ a ≠ c := by
  obtain ⟨ms, sd, h1, h2, h3, _⟩ := s
  exact ⟨fun z => (by rw [z, h2] at h; cases h), fun z => (by rw [z, h3] at h; cases h)⟩
section
variable {H H' : Hp} {st c d pp : Addr} {bs ps : List Addr} {dts : List TV} {pcs : List PT}
theorem HpOk.keep (h : HpOk H st c d pp bs ps dts pcs) (s : StOk H' st c) (k : Keep st c H H') : HpOk H' st c d pp bs ps dts pcs :=
  ⟨s, h.nd, h.np, h.ndp, k _ _ h.nd.1 h.nd.2 h.hd, k _ _ h.np.1 h.np.2 h.hp,
   h.hB.mono fun a xs e => k _ _ (h.sok.tup e).1 (h.sok.tup e).2 e, h.hP.mono fun a xs e => k _ _ (h.sok.tup e).1 (h.sok.tup e).2 e⟩
theorem HpOk.same (h : HpOk H st c d pp bs ps dts pcs) (e : Same H H') : HpOk H' st c d pp bs ps dts pcs := h.keep (h.sok.same e) (Keep.same e)
end
/-- what the law knows of its tokens and pieces -/
structure PcOk (dts : List TV) (pcs : List PT) : Prop where
  same : dts.map (fun t => t.2.1) = pcs.map (fun p => p.2.1)
  toks : ∀ t ∈ dts, t.1.cps.all (· < 0x110000) = true ∧ ValOk t.2.1
  pieces : ∀ p ∈ pcs, Piece p.1 p.2.1 p.2.2
theorem pcok_snoc {dts : List TV} {pcs : List PT} (h : PcOk dts pcs) {k : Str} {v : V} {x : List Nat} (n : Nat) (p : Piece k v x) : PcOk (dts ++ [(k, v, n)]) (pcs ++ [(k, v, x)]) := by
  refine ⟨?_, fun t ht => ?_, fun q hq => ?_⟩
  · rw [List.map_append, List.map_append, h.same]
    rfl
  · rcases List.mem_append.mp ht with ht | ht
    · exact h.toks t ht
    · rw [List.mem_singleton] at ht
      subst ht
      exact ⟨(piece_len p).2.2, (piece_len p).2.1⟩
  · rcases List.mem_append.mp hq with hq | hq
    · exact h.pieces q hq
    · rw [List.mem_singleton] at hq
      subst hq
      exact p
theorem small_S {l : List Nat} (h : l.length ≤ 100000) : (S l).length ≤ sizeLine := by rw [SX.S_len]; exact Nat.le_trans h (by decide)
section
variable {P : Program} {w : World} {K : PySem.W.Frag} {mg : Str → Option Value} {base : Heap}
def sp_law (K : PySem.W.Frag) : Sp := fun vs H Q _ => ∃ (a : Addr) (ns : List Int), vs = [.ref a] ∧ SqL K H a (ns.map V.int) ∧ ns.length ≤ 63 ∧ ∀ H', Q (.bl true) H'
set_option maxHeartbeats 16000000 in
theorem ok_law (T : Top K mg) : FnOk P w K mg base CX0 6 T.a_law T.d_law ["script"]  (sp_law K) := by
  refine T.F_law.ok sc_law (fun vs H Q E h => ?_) (fun cdv A outer s H vs Q E hr h => ?_)
  · obtain ⟨_, _, rfl, _⟩ := h
    rfl
  · obtain ⟨l, ns, rfl, hS, hlen, q⟩ := h
    refine ⟨_, (pss_cons (ps_set (i := 1) sc_law.nd rfl (by first | exact Or.inl rfl | exact Or.inr rfl) (pe_call (ok__law_state T) (hr.mono (by decide)) (by rfl) T.g__law_state T.F__law_state.kp T.b__law_state .nil pass0 (pa_cons (pv 0) pa_nil)))
  (pss_cons (ps_set (i := 2) sc_law.nd rfl (by first | exact Or.inl rfl | exact Or.inr rfl) pe_str)
  (Evl.pss_cut (ps_if (pt_cmpR op_eq (pe_call (ok__law_draw T) (hr.mono (by decide)) (by rfl) T.g__law_draw T.F__law_draw.kp T.b__law_draw .nil pass0 (pa_cons (pv 1) (pa_cons pe_int pa_nil))) pe_int (nomark _))
  (pss_one (ps_set (i := 2) sc_law.nd rfl (by first | exact Or.inl rfl | exact Or.inr rfl) (pe_call (ok__law_gap T) (hr.mono (by decide)) (by rfl) T.g__law_gap T.F__law_gap.kp T.b__law_gap .nil pass0 (pa_cons (pv 1) pa_nil))))
  pss_nil)
  (Evl.pss_cut (ps_if (pt_cmpR op_eq (pe_call (ok__law_draw T) (hr.mono (by decide)) (by rfl) T.g__law_draw T.F__law_draw.kp T.b__law_draw .nil pass0 (pa_cons (pv 1) (pa_cons pe_int pa_nil))) pe_int (nomark _))
  (pss_one (ps_set (i := 2) sc_law.nd rfl (by first | exact Or.inl rfl | exact Or.inr rfl) (pe_op op_add_str (pv 2) (pe_op op_mul_str pe_str (pe_call (ok__law_draw T) (hr.mono (by decide)) (by rfl) T.g__law_draw T.F__law_draw.kp T.b__law_draw .nil pass0 (pa_cons (pv 1) (pa_cons pe_int pa_nil)))))))
  pss_nil)
  (pss_cons (ps_set (i := 3) sc_law.nd rfl (by first | exact Or.inl rfl | exact Or.inr rfl) (pe_lst pa_nil))
  (pss_cons (ps_set (i := 4) sc_law.nd rfl (by first | exact Or.inl rfl | exact Or.inr rfl) (pe_lst pa_nil))
  (pss_cons (ps_for PassesOwn.never rfl (pi_range1 (by rfl) T.m_range (pa_cons (pe_call (ok__law_draw T) (hr.mono (by decide)) (by rfl) T.g__law_draw T.F__law_draw.kp T.b__law_draw .nil pass0 (pa_cons (pv 1) (pa_cons pe_int pa_nil))) pa_nil)) (pg_name (i := 5) sc_law.nd rfl (by first | exact Or.inl rfl | exact Or.inr rfl))
  (pss_cons (ps_set (i := 6) sc_law.nd rfl (by first | exact Or.inl rfl | exact Or.inr rfl) (pe_call (ok__law_piece T) (hr.mono (by decide)) (by rfl) T.g__law_piece T.F__law_piece.kp T.b__law_piece .nil pass0 (pa_cons (pv 1) pa_nil)))
  (Evl.pss_cut (ps_if (pt_cmpR op_gt (pe_callB call_len_seq (by rfl) T.m_len PySem.boot_len (pa_cons (pv 4) pa_nil)) pe_int (nomark _))
  (pss_one (ps_if (pw_or (pt_val (pe_call (ok__law_apart T) (hr.mono (by decide)) (by rfl) T.g__law_apart T.F__law_apart.kp T.b__law_apart .nil pass0 (pa_cons (pe_ix ix_list (pv 4) (pe_un un_neg pe_int) (fun _ _ => rfl)) (pa_cons (pv 6) pa_nil)))) (pw_or1 (pt_cmpR op_eq (pe_call (ok__law_draw T) (hr.mono (by decide)) (by rfl) T.g__law_draw T.F__law_draw.kp T.b__law_draw .nil pass0 (pa_cons (pv 1) (pa_cons pe_int pa_nil))) pe_int (nomark _)))).pt
  (pss_one (ps_set (i := 2) sc_law.nd rfl (by first | exact Or.inl rfl | exact Or.inr rfl) (pe_op op_add_str (pv 2) (pe_call (ok__law_gap T) (hr.mono (by decide)) (by rfl) T.g__law_gap T.F__law_gap.kp T.b__law_gap .nil pass0 (pa_cons (pv 1) pa_nil)))))
  pss_nil))
  pss_nil)
  (pss_cons (ps_expr (pe_bm PySem.F.plainAttrs_list PySem.F.slot_list_append PySem.F.type_list_append mt_append (pv 3) (pa_cons (pe_tup (pa_cons (pe_ix ix_tup (pv 6) pe_int (fun _ _ => rfl)) (pa_cons (pe_ix ix_tup (pv 6) pe_int (fun _ _ => rfl)) (pa_cons (pe_op op_add pe_int (pe_call (ok__law_newlines T) (hr.mono (by decide)) (by rfl) T.g__law_newlines T.F__law_newlines.kp T.b__law_newlines .nil pass0 (pa_cons (pv 2) pa_nil))) pa_nil)))) pa_nil)))
  (pss_cons (ps_expr (pe_bm PySem.F.plainAttrs_list PySem.F.slot_list_append PySem.F.type_list_append mt_append (pv 4) (pa_cons (pv 6) pa_nil)))
  (pss_one (ps_set (i := 2) sc_law.nd rfl (by first | exact Or.inl rfl | exact Or.inr rfl) (pe_op op_add_str (pv 2) (pe_ix ix_tup (pv 6) pe_int (fun _ _ => rfl))))))))))
  (Evl.pss_cut (ps_if (pt_cmpR op_eq (pe_call (ok__law_draw T) (hr.mono (by decide)) (by rfl) T.g__law_draw T.F__law_draw.kp T.b__law_draw .nil pass0 (pa_cons (pv 1) (pa_cons pe_int pa_nil))) pe_int (nomark _))
  (pss_one (ps_set (i := 2) sc_law.nd rfl (by first | exact Or.inl rfl | exact Or.inr rfl) (pe_op op_add_str (pv 2) (pe_call (ok__law_gap T) (hr.mono (by decide)) (by rfl) T.g__law_gap T.F__law_gap.kp T.b__law_gap .nil pass0 (pa_cons (pv 1) pa_nil)))))
  pss_nil)
  (Evl.pss_cut (ps_if (pt_cmpR op_eq (pe_call (ok__law_draw T) (hr.mono (by decide)) (by rfl) T.g__law_draw T.F__law_draw.kp T.b__law_draw .nil pass0 (pa_cons (pv 1) (pa_cons pe_int pa_nil))) pe_int (nomark _))
  (pss_one (ps_set (i := 2) sc_law.nd rfl (by first | exact Or.inl rfl | exact Or.inr rfl) (pe_op op_add_str (pe_op op_add_str (pv 2) pe_str) (pe_call (ok__law_comment T) (hr.mono (by decide)) (by rfl) T.g__law_comment T.F__law_comment.kp T.b__law_comment .nil pass0 (pa_cons (pv 1) pa_nil)))))
  pss_nil)
  (pss_cons (ps_expr (pe_bm PySem.F.plainAttrs_list PySem.F.slot_list_append PySem.F.type_list_append mt_append (pv 3) (pa_cons (pe_tup (pa_cons pe_str (pa_cons pe_str (pa_cons (pe_op op_add pe_int (pe_call (ok__law_newlines T) (hr.mono (by decide)) (by rfl) T.g__law_newlines T.F__law_newlines.kp T.b__law_newlines .nil pass0 (pa_cons (pv 2) pa_nil))) pa_nil)))) pa_nil)))
  (pss_cons (ps_set (i := 7) sc_law.nd rfl (by first | exact Or.inl rfl | exact Or.inr rfl) (pe_call (ok_tokenize T) (hr.mono (by decide)) (by rfl) T.g_tokenize T.F_tokenize.kp T.b_tokenize .nil pass0 (pa_cons (pv 2) pa_nil)))
  (pss_cons (ps_if (pt_not (pt_val (pe_call (ok__law_same T) (hr.mono (by decide)) (by rfl) T.g__law_same T.F__law_same.kp T.b__law_same .nil pass0 (pa_cons (pv 7) (pa_cons (pv 3) pa_nil)))))
  (pss_one (ps_ret pe_bl))
  pss_nil)
  (pss_cons (ps_for PassesOwn.never rfl (pi_list (pv 4)) (pg_name (i := 6) sc_law.nd rfl (by first | exact Or.inl rfl | exact Or.inr rfl))
  (pss_one (ps_if (pw_or (pt_cmpR op_eq (pe_ix ix_tup (pv 6) pe_int (fun _ _ => rfl)) pe_str (nomark _)) (pw_or1 (pt_cmpR op_eq (pe_ix ix_tup (pv 6) pe_int (fun _ _ => rfl)) pe_str (nomark _)))).pt
  (pss_cons (ps_set (i := 8) sc_law.nd rfl (by first | exact Or.inl rfl | exact Or.inr rfl) (pe_call (ok_is_reserved T) (hr.mono (by decide)) (by rfl) T.g_is_reserved T.F_is_reserved.kp T.b_is_reserved .nil pass0 (pa_cons (pe_ix ix_tup (pv 6) pe_int (fun _ _ => rfl)) pa_nil)))
  (pss_one (ps_if (pw_or (pt_not (pt_val (pe_callB call_isi (by rfl) T.m_isinstance (by decide +kernel) (pa_cons (pv 8) (pa_cons (pe_ty (T := "bool") (by rfl) T.m_bool (by decide +kernel)) pa_nil))))) (pw_or1 (pt_cmpR op_ne (pv 8) (pe_cmpR op_eq (pe_ix ix_tup (pv 6) pe_int (fun _ _ => rfl)) pe_str (nomark _)) (nomark _)))).pt
  (pss_one (ps_ret pe_bl))
  pss_nil)))
  pss_nil)))
  (pss_cons (ps_set (i := 9) sc_law.nd rfl (by first | exact Or.inl rfl | exact Or.inr rfl) (pe_call (ok_spell T) (hr.mono (by decide)) (by rfl) T.g_spell T.F_spell.kp T.b_spell .nil pass0 (pa_cons (pe_callTy call_list_of (by rfl) T.m_list (by decide +kernel) (pa_cons (pv 3) pa_nil)) pa_nil)))
  (pss_one (ps_ret (pe_and (pe_callB call_isi (by rfl) T.m_isinstance (by decide +kernel) (pa_cons (pv 9) (pa_cons (pe_ty (T := "str") (by rfl) T.m_str (by decide +kernel)) pa_nil))) (pe_one (pe_cmpR op_eq (pv 9) (pe_bm PySem.F.plainAttrs_str PySem.F.slot_str_join PySem.F.type_str_join mt_join pe_str (pa_cons (pe_lc (own := [("piece", 6)]) (g := gName 6) (tt := tYes) rfl sc_law.nd (pi_list (pv 4)) (blkOk_by (N := ["script", "state", "text", "due", "pieces", "k", "piece", "actual", "reserved", "spelled"]) (sc := defScope s_law) (by decide +kernel)) (fun _ _ _ _ _ => pg_name (i := 6) sc_law.nd rfl (Or.inl rfl)) (fun _ _ _ _ _ => pts_nil) (fun _ _ _ _ _ => (pe_callTy (CallR.or call_str_int SkE.call_str_str) (by rfl) T.m_str (by decide +kernel) (pa_cons (pe_ix (r := rIxT K) ix_tup (pv 6) pe_int (fun _ _ => rfl)) pa_nil)))) pa_nil)) (nomark _)))))))))))))))))))), ?_⟩
    refine ⟨_, rfl, l, ns, rfl, hS, hlen, fun H1 st c s1 nst nc hst => ?_⟩
    refine ⟨fun σ' H' => ∃ tx : List Nat, σ' = [some (.ref l), some (.ref st), some (.str (S tx)), none, none, none, none, none, none, none] ∧ Built tx [] none ∧ tx.length ≤ 10 ∧ StOk H' st c, ?_, ?_⟩
    · refine ⟨_, rfl, st, c, 2, rfl, hst, by decide, by decide, fun v H2 v0 v1 hst2 k2 => ⟨rfl, _, rfl, ite2 (fun c1 => ?_) (fun c1 => ?_)⟩⟩
      · refine ⟨_, rfl, st, c, rfl, hst2, fun z H3 gz hst3 k3 => ?_⟩
        exact ⟨z, rfl, built_gap built_nil gz, by have := gz.len; omega, hst3⟩
      · exact ⟨[], rfl, built_nil, by decide, hst2⟩
    rintro σ' H2 ⟨tx, rfl, bt, tl, hst2⟩
    refine ⟨fun σ' H' => ∃ tx : List Nat, σ' = [some (.ref l), some (.ref st), some (.str (S tx)), none, none, none, none, none, none, none] ∧ Built tx [] none ∧ tx.length ≤ 320 ∧ StOk H' st c, ?_, ?_⟩
    · refine ⟨_, rfl, st, c, 6, rfl, hst2, by decide, by decide, fun v H3 v0 v1 hst3 k3 => ⟨rfl, _, rfl, ite2 (fun c1 => ?_) (fun c1 => ?_)⟩⟩
      · refine ⟨_, rfl, _, rfl, st, c, 300, rfl, hst3, by decide, by decide, fun u H4 u0 u1 hst4 k4 => ?_⟩
        obtain ⟨k, rfl, hk⟩ := nat_in (n := 300) u0 u1
        refine ⟨[10], (k : Int), rfl, rfl, by omega, by omega, by decide, S tx, S (List.replicate k 10), rfl, ?_, ?_, ?_⟩
        · rw [rep_one]
          rfl
        · rw [SX.S_len, SX.S_len, List.length_replicate]
          exact Nat.le_trans (show tx.length + k ≤ 400 by omega) (by decide)
        · refine ⟨tx ++ List.replicate k 10, ?_, built_lines bt k, by rw [List.length_append, List.length_replicate]; omega, hst4⟩
          have e : S tx ++ S (List.replicate k 10) = S (tx ++ List.replicate k 10) := SX.S_cat _ _
          exact congrArg (fun z => [some (V.ref l), some (.ref st), some (.str z), none, none, none, none, none, none, none]) e
      · exact ⟨tx, rfl, bt, by omega, hst3⟩
    rintro σ' H3 ⟨tx, rfl, bt, tl, hst3⟩
    -- due = [], pieces = []
    refine ⟨Nat.zero_le _, fun d nd => ?_⟩
    have hst4 := hst3.same (same_new (o := .lst []) nd)
    refine ⟨Nat.zero_le _, fun pp npp => ?_⟩
    have hst5 := hst4.same (same_new (o := .lst []) npp)
    have ndpp : d ≠ pp := fun z => by rw [← z, upd_same] at npp; cases npp
    have hk0 : HpOk (upd (upd H3 d (.lst [])) pp (.lst [])) st c d pp [] [] [] [] :=
      ⟨hst5, hst3.ne nd, hst4.ne npp, ndpp, by rw [upd_ne ndpp]; exact upd_same, upd_same, trivial, trivial⟩
    -- the pieces
    refine ⟨_, rfl, st, c, 41, rfl, hst5, by decide, by decide, fun u H6 u0 u1 hst6 k6 => ?_⟩
    obtain ⟨N, rfl, hN⟩ := nat_in (n := 41) u0 u1
    refine ⟨(N : Int), rfl, by omega, by omega, for_range (n := (N : Int).toNat) (fun i σ' H' => ∃ (tx : List Nat) (bs ps : List Addr) (dts : List TV) (pcs : List PT) (y5 y6 : Option V),
      σ' = [some (.ref l), some (.ref st), some (.str (S tx)), some (.ref d), some (.ref pp), y5, y6, none, none, none] ∧ HpOk H' st c d pp bs ps dts pcs ∧ PcOk dts pcs ∧ Built tx dts (lastO pcs) ∧ tx.length ≤ 320 + 30 * i ∧ dts.length = i)
      ⟨tx, [], [], [], [], none, none, rfl, hk0.keep hst6 k6, ⟨rfl, by simp, by simp⟩, bt, by omega, rfl⟩ ?_ ?_⟩
    · rintro i σ' H7 hi ⟨tx, bs, ps, dts, pcs, y5, y6, rfl, hk, hpc, hb, htl, hdl⟩
      have hi41 : i < 41 := by omega
      have lp := hk.hP.len
      have lb := hk.hB.len
      have lpc : dts.length = pcs.length := by
        have := congrArg List.length hpc.same
        rw [List.length_map, List.length_map] at this
        exact this
      refine ⟨_, rfl, st, c, rfl, hk.sok, fun k v x H8 t hp hs8 k8 nt ht => ?_⟩
      have hk8 := hk.keep hs8 k8
      obtain ⟨hx16, hval, hkst⟩ := piece_len hp
      -- the gap, where there is one
      refine ⟨fun σ' H' => ∃ (tx' : List Nat) (last : Option (Str × V)), σ' = [some (.ref l), some (.ref st), some (.str (S tx')), some (.ref d), some (.ref pp), some (.int (0 + (i : Int))), some (.ref t), none, none, none] ∧
        HpOk H' st c d pp bs ps dts pcs ∧ H' t = some (.tup [.str k, v, .str (S x)]) ∧ Built tx' dts last ∧ (∀ rest, SepO last (x ++ rest)) ∧ tx'.length ≤ 330 + 30 * i, ?_, ?_⟩
      · refine ⟨_, rfl, pp, _, rfl, .inl (SqL.of hk8.hp), _, _, rfl, rfl, _, rfl, ?_⟩
        rw [List.length_map]
        by_cases h0 : ps.length = 0
        · rw [h0]
          refine iteF ⟨tx, lastO pcs, rfl, hk8, ht, hb, ?_, by omega⟩
          have e : pcs = [] := List.eq_nil_of_length_eq_zero (by omega)
          rw [e]
          exact fun _ => trivial
        · rw [decide_eq_true (by omega)]
          obtain ⟨ps', b, rfl⟩ : ∃ ps' b, ps = ps' ++ [b] := ⟨ps.dropLast, ps.getLast (by intro z; rw [z] at h0; exact h0 rfl), (List.dropLast_concat_getLast _).symm⟩
          obtain ⟨pcs', pc, rfl⟩ : ∃ ps' b, pcs = ps' ++ [b] := ⟨pcs.dropLast, pcs.getLast (by intro z; rw [z] at lp; exact h0 lp), (List.dropLast_concat_getLast _).symm⟩
          obtain ⟨kb, vb, xb⟩ := pc
          rw [List.length_append, List.length_append, List.length_singleton, List.length_singleton] at lp
          obtain ⟨b2, hb2, hbt⟩ := hk8.hP.get (i := pcs'.length) (t := (kb, vb, xb)) (by rw [List.getElem?_append_right (Nat.le_refl _), Nat.sub_self]; rfl)
          have eb : b2 = b := by
            rw [List.getElem?_append_right (by omega), show pcs'.length - ps'.length = 0 by omega] at hb2
            exact (Option.some.inj hb2).symm
          subst eb
          have hlast : lastO (pcs' ++ [(kb, vb, xb)]) = some (kb, vb) := by
            unfold lastO
            rw [List.getLast?_concat]
            rfl
          rw [hlast] at hb
          have hval2 := (piece_len (hpc.pieces (kb, vb, xb) (List.mem_append_right _ (List.mem_singleton_self _)))).2.1
          have hflat : flatV vb = true := by
            rcases hval2 with ⟨z, hz, _⟩ | ⟨m, hm, _⟩
            · rw [show vb = _ from hz]; rfl
            · rw [show vb = _ from hm]; rfl
          have hat : atI ((ps' ++ [b2]).map V.ref) (-1) = some (.ref b2) := by
            rw [List.map_append]
            exact atI_last _ _
          have gap : ∀ (H9 : Hp), StOk H9 st c → Keep st c H8 H9 → ∀ D : Ends, (∀ (tx' : List Nat) (H' : Hp), GapOk tx' → StOk H' st c → Keep st c H9 H' → D.nx [some (.ref l), some (.ref st), some (.str (S (tx ++ tx'))), some (.ref d), some (.ref pp), some (.int (0 + (i : Int))), some (.ref t), none, none, none] H') →
              tAsg (tOp (fun x y H Q => ∃ i j, x = .str i ∧ y = .str j ∧ i.length + j.length ≤ sizeLine ∧ Q (.str (i ++ j)) H) (tVar 2) (tCall sp__law_gap [] E0 (tCons (tVar 1) tNil))) (gName 2) D [some (.ref l), some (.ref st), some (.str (S tx)), some (.ref d), some (.ref pp), some (.int (0 + (i : Int))), some (.ref t), none, none, none] H9 := fun H9 hs9 k9 D qD => by
            refine ⟨_, rfl, _, rfl, st, c, rfl, hs9, fun z H10 gz hs10 k10 => ⟨S tx, S z, rfl, rfl, ?_, ?_⟩⟩
            · rw [SX.S_len, SX.S_len]
              exact Nat.le_trans (show tx.length + z.length ≤ 2000 by have := gz.len; omega) (by decide)
            · have e : S tx ++ S z = S (tx ++ z) := SX.S_cat _ _
              rw [e]
              exact qD z H10 gz hs10 k10
          have put : ∀ (z : List Nat) (H9 H' : Hp), GapOk z → StOk H' st c → Keep st c H8 H9 → Keep st c H9 H' → ∃ (tx' : List Nat) (last : Option (Str × V)), [some (V.ref l), some (.ref st), some (.str (S (tx ++ z))), some (.ref d), some (.ref pp), some (.int (0 + (i : Int))), some (.ref t), none, none, none] = [some (V.ref l), some (.ref st), some (.str (S tx')), some (.ref d), some (.ref pp), some (.int (0 + (i : Int))), some (.ref t), none, none, none] ∧
              HpOk H' st c d pp bs (ps' ++ [b2]) dts (pcs' ++ [(kb, vb, xb)]) ∧ H' t = some (.tup [.str k, v, .str (S x)]) ∧ Built tx' dts last ∧ (∀ rest, SepO last (x ++ rest)) ∧ tx'.length ≤ 330 + 30 * i := fun z H9 H' gz hs k9 k10 =>
            ⟨tx ++ z, none, rfl, hk8.keep hs (k9.trans k10), (k9.trans k10) _ _ (hs8.tup ht).1 (hs8.tup ht).2 ht, built_gap hb gz, fun _ => trivial, by rw [List.length_append]; have := gz.len; omega⟩
          refine iteT ?_
          refine ⟨_, rfl, _, rfl, pp, _, -1, _, rfl, rfl, SqL.of hk8.hp, hat, _, rfl, b2, t, kb, k, vb, v, .str (S xb), .str (S x), rfl, SqT.of hbt, SqT.of ht, hflat, fun H9 s9 => ?_⟩
          have k9 := Keep.same (p := st) (c := c) s9
          have hs9 := hs8.same s9
          refine ⟨_, rfl, ?_⟩
          cases hap : apartB kb k vb with
          | true =>
            refine iteT (iteT ?_)
            exact gap H9 hs9 k9 _ fun z H' gz hs k10 => put z H9 H' gz hs k9 k10
          | false =>
            refine iteF ?_
            refine ⟨_, rfl, st, c, 2, rfl, hs9, by decide, by decide, fun y H10 y0 y1 hs10 k10 => ⟨rfl, _, rfl, ite2 (fun c1 => ?_) (fun c1 => ?_)⟩⟩
            · exact gap H10 hs10 (k9.trans k10) _ fun z H' gz hs k11 => put z H10 H' gz hs (k9.trans k10) k11
            · refine ⟨tx, some (kb, vb), rfl, hk8.keep hs10 (k9.trans k10), (k9.trans k10) _ _ (hs8.tup ht).1 (hs8.tup ht).2 ht, hb, piece_sep (x := xb) hp hap, by omega⟩
      rintro σ' H9 ⟨tx', last, rfl, hk9, ht9, hb9, hsep, htl9⟩
      have st9 := SqT.of (K := K) ht9
      -- the token that is due
      refine ⟨_, rfl, .inl ⟨rfl, _, SqL.of hk9.hd⟩, ?_⟩
      refine ⟨_, rfl, t, _, 0, _, rfl, rfl, st9, atI_nat (j := 0) rfl, _, rfl, t, _, 1, _, rfl, rfl, st9, atI_nat (j := 1) rfl, _, rfl, tx', rfl, by omega, fun H10 s10 => ⟨_, _, rfl, rfl, by show 3 ≤ sizeLine; decide, fun t2 nt2 => ?_⟩⟩
      have hk10 := hk9.same s10
      have hk11 := hk10.same (same_new (o := .tup [.str k, v, .int (1 + (nl tx' : Int))]) nt2)
      have ht11 := same_new (o := .tup [.str k, v, .int (1 + (nl tx' : Int))]) nt2 _ _ (s10 _ _ ht9)
      refine ⟨d, _, _, rfl, rfl, hk11.hd, ?_, ?_⟩
      · rw [List.length_map]
        exact small1000 (by omega)
      -- pieces.append(piece)
      have nt2d : t2 ≠ d := fun z => by rw [z, hk10.hd] at nt2; cases nt2
      have nt2p : t2 ≠ pp := fun z => by rw [z, hk10.hp] at nt2; cases nt2
      have tupd : ∀ {H' : Hp} {a : Addr} {xs : List V}, HpOk H' st c d pp bs ps dts pcs → H' a = some (.tup xs) → a ≠ d ∧ a ≠ pp := fun h e => ⟨fun z => (by rw [z, h.hd] at e; cases e), fun z => (by rw [z, h.hp] at e; cases e)⟩
      refine ⟨_, rfl, .inl ⟨rfl, _, SqL.of (by rw [upd_ne hk11.ndp.symm]; exact hk11.hp)⟩, _, rfl, pp, _, _, rfl, rfl, (by rw [upd_ne hk11.ndp.symm]; exact hk11.hp), ?_, ?_⟩
      · rw [List.length_map]
        exact small1000 (by omega)
      have htt := tupd hk11 ht11
      refine ⟨_, rfl, _, rfl, t, _, 2, _, rfl, rfl, SqT.of (by rw [upd_ne htt.2, upd_ne htt.1]; exact ht11), atI_nat (j := 2) rfl, S tx', S x, rfl, rfl, ?_, ?_⟩
      · rw [SX.S_len, SX.S_len]
        exact Nat.le_trans (show tx'.length + x.length ≤ 2000 by omega) (by decide)
      have e : S tx' ++ S x = S (tx' ++ x) := SX.S_cat _ _
      rw [e]
      refine ⟨tx' ++ x, bs ++ [t2], ps ++ [t], dts ++ [(k, v, 1 + nl tx')], pcs ++ [(k, v, x)], some (.int (0 + (i : Int))), some (.ref t), rfl, ?_, pcok_snoc hpc _ hp, ?_, ?_, ?_⟩
      · refine ⟨?_, hk11.nd, hk11.np, hk11.ndp, ?_, ?_, ?_, ?_⟩
        · obtain ⟨ms, sd, g1, g2, g3, g⟩ := hk11.sok
          refine ⟨ms, sd, g1, ?_, ?_, g⟩
          · rw [upd_ne hk11.np.1.symm, upd_ne hk11.nd.1.symm]; exact g2
          · rw [upd_ne hk11.np.2.symm, upd_ne hk11.nd.2.symm]; exact g3
        · rw [upd_ne hk11.ndp, upd_same, List.map_append]
          rfl
        · rw [upd_same, List.map_append]
          rfl
        · refine ToksAt.snoc (t := (k, v, 1 + nl tx')) ?_ (hk11.hB.mono fun a xs ha => ?_)
          · rw [upd_ne nt2p, upd_ne nt2d, upd_same]
            rfl
          · rw [upd_ne (tupd hk11 ha).2, upd_ne (tupd hk11 ha).1]
            exact ha
        · refine PcsAt.snoc (t := (k, v, x)) ?_ (hk11.hP.mono fun a xs ha => ?_)
          · rw [upd_ne htt.2, upd_ne htt.1]
            exact ht11
          · rw [upd_ne (tupd hk11 ha).2, upd_ne (tupd hk11 ha).1]
            exact ha
      · have hlast : lastO (pcs ++ [(k, v, x)]) = some (k, v) := by
          unfold lastO
          rw [List.getLast?_concat]
          rfl
        rw [hlast]
        exact built_piece hb9 hp hsep
      · rw [List.length_append]; omega
      · rw [List.length_append, List.length_singleton, hdl]
    · rintro σ' H7 ⟨tx, bs, ps, dts, pcs, y5, y6, rfl, hk, hpc, hb, htl, hdl⟩
      have hN2 : tx.length ≤ 1600 := by omega
      have hdl2 : dts.length ≤ 41 := by omega
      have lp := hk.hP.len
      have lpc : dts.length = pcs.length := by
        have := congrArg List.length hpc.same
        rw [List.length_map, List.length_map] at this
        exact this
      -- a gap at the end
      refine ⟨fun σ' H' => ∃ (tx' : List Nat) (last : Option (Str × V)), σ' = [some (.ref l), some (.ref st), some (.str (S tx')), some (.ref d), some (.ref pp), y5, y6, none, none, none] ∧
        HpOk H' st c d pp bs ps dts pcs ∧ Built tx' dts last ∧ tx'.length ≤ 1610, ?_, ?_⟩
      · refine ⟨_, rfl, st, c, 3, rfl, hk.sok, by decide, by decide, fun v H8 v0 v1 hs8 k8 => ⟨rfl, _, rfl, ite2 (fun c1 => ?_) (fun c1 => ?_)⟩⟩
        · refine ⟨_, rfl, _, rfl, st, c, rfl, hs8, fun z H9 gz hs9 k9 => ⟨S tx, S z, rfl, rfl, ?_, ?_⟩⟩
          · rw [SX.S_len, SX.S_len]
            exact Nat.le_trans (show tx.length + z.length ≤ 2000 by have := gz.len; omega) (by decide)
          · have e : S tx ++ S z = S (tx ++ z) := SX.S_cat _ _
            rw [e]
            exact ⟨tx ++ z, none, rfl, hk.keep hs9 (k8.trans k9), built_gap hb gz, by rw [List.length_append]; have := gz.len; omega⟩
        · exact ⟨tx, _, rfl, hk.keep hs8 k8, hb, by omega⟩
      rintro σ' H8 ⟨tx2, last, rfl, hk8, hb2, htl2⟩
      -- a comment at the end
      refine ⟨fun σ' H' => ∃ (tx' : List Nat), σ' = [some (.ref l), some (.ref st), some (.str (S tx')), some (.ref d), some (.ref pp), y5, y6, none, none, none] ∧
        HpOk H' st c d pp bs ps dts pcs ∧ Lex tx' 1 dts (1 + nl tx') ∧ tx'.length ≤ 1620, ?_, ?_⟩
      · have stop : ∀ rest, Stop rest → (∀ n, Lex rest n [] n) → nl rest = 0 → Lex (tx2 ++ rest) 1 dts (1 + nl (tx2 ++ rest)) := fun rest h1 h2 h3 => by
          have h := hb2.ext rest [] (1 + nl tx2) (stop_sep h1) (h2 _)
          rw [List.append_nil] at h
          rw [nl_app, h3]
          exact h
        refine ⟨_, rfl, st, c, 5, rfl, hk8.sok, by decide, by decide, fun v H9 v0 v1 hs9 k9 => ⟨rfl, _, rfl, ite2 (fun c1 => ?_) (fun c1 => ?_)⟩⟩
        · refine ⟨_, rfl, S tx2, S [32], rfl, rfl, ?_, _, rfl, st, c, rfl, hs9, fun z H10 cz hs10 k10 => ⟨_, S z, rfl, rfl, ?_, ?_⟩⟩
          · rw [SX.S_len, SX.S_len]
            exact Nat.le_trans (show tx2.length + 1 ≤ 2000 by omega) (by decide)
          · rw [SX.S_cat, SX.S_len, SX.S_len, List.length_append]
            exact Nat.le_trans (show tx2.length + 1 + z.length ≤ 2000 by have := cz.len; omega) (by decide)
          · have e : (S tx2 ++ S [32]) ++ S z = S (tx2 ++ (32 :: z)) := by
              rw [SX.S_cat, SX.S_cat, List.append_assoc]
              rfl
            rw [e]
            have hz0 : nl (32 :: z) = 0 := by
              obtain ⟨r, rfl, hr10⟩ := cz.head
              unfold nl
              rw [List.length_eq_zero_iff, List.filter_eq_nil_iff]
              intro x hx e
              have e2 : x = 10 := by simpa using e
              rcases List.mem_cons.mp hx with rfl | hx
              · cases e2
              rcases List.mem_cons.mp hx with rfl | hx
              · cases e2
              · exact hr10 x hx e2
            exact ⟨tx2 ++ (32 :: z), rfl, hk8.keep hs10 (k9.trans k10), stop _ (.inr ⟨32, z, rfl, .inl rfl⟩) (fun n => .sp (com_end cz n)) hz0, by rw [List.length_append, List.length_cons]; have := cz.len; omega⟩
        · have h := stop [] (.inl rfl) (fun n => .nil) rfl
          rw [List.append_nil] at h
          exact ⟨tx2, rfl, hk8.keep hs9 k9, h, by omega⟩
      rintro σ' H9 ⟨tx3, rfl, hk9, hlex, htl3⟩
      -- the end's token
      refine ⟨_, rfl, .inl ⟨rfl, _, SqL.of hk9.hd⟩, _, rfl, tx3, rfl, by omega, fun H10 s10 => ⟨_, _, rfl, rfl, by show 3 ≤ sizeLine; decide, fun t2 nt2 => ?_⟩⟩
      have hk10 := hk9.same s10
      have hk11 := hk10.same (same_new (o := .tup [.str "end", .str "", .int (1 + (nl tx3 : Int))]) nt2)
      have lb := hk11.hB.len
      have nt2d : t2 ≠ d := fun z => by rw [z, hk10.hd] at nt2; cases nt2
      have tupd : ∀ {H' : Hp} {a : Addr} {xs : List V}, HpOk H' st c d pp bs ps dts pcs → H' a = some (.tup xs) → a ≠ d ∧ a ≠ pp := fun h e => ⟨fun z => (by rw [z, h.hd] at e; cases e), fun z => (by rw [z, h.hp] at e; cases e)⟩
      refine ⟨d, _, _, rfl, rfl, hk11.hd, ?_, ?_⟩
      · rw [List.length_map]
        exact small1000 (by omega)
      have hd12 : (upd (upd H10 t2 (.tup [.str "end", .str "", .int (1 + (nl tx3 : Int))])) d (.lst (bs.map V.ref ++ [.ref t2]))) d = some (.lst ((bs ++ [t2]).map V.ref)) := by
        rw [upd_same, List.map_append]
        rfl
      have hp12 : (upd (upd H10 t2 (.tup [.str "end", .str "", .int (1 + (nl tx3 : Int))])) d (.lst (bs.map V.ref ++ [.ref t2]))) pp = some (.lst (ps.map V.ref)) := by
        rw [upd_ne hk11.ndp.symm]
        exact hk11.hp
      have hB12 : ToksAt (upd (upd H10 t2 (.tup [.str "end", .str "", .int (1 + (nl tx3 : Int))])) d (.lst (bs.map V.ref ++ [.ref t2]))) (bs ++ [t2]) (dts ++ [endT (1 + nl tx3)]) := by
        refine ToksAt.snoc (t := endT (1 + nl tx3)) ?_ (hk11.hB.mono fun a xs ha => ?_)
        · rw [upd_ne nt2d, upd_same]
          rfl
        · rw [upd_ne (tupd hk11 ha).1]
          exact ha
      have hP12 : PcsAt (upd (upd H10 t2 (.tup [.str "end", .str "", .int (1 + (nl tx3 : Int))])) d (.lst (bs.map V.ref ++ [.ref t2]))) ps pcs := hk11.hP.mono fun a xs ha => by
        rw [upd_ne (tupd hk11 ha).1]
        exact ha
      generalize (upd (upd H10 t2 (.tup [.str "end", .str "", .int (1 + (nl tx3 : Int))])) d (.lst (bs.map V.ref ++ [.ref t2]))) = H12 at hd12 hp12 hB12 hP12 ⊢
      -- actual = tokenize(text)
      refine ⟨_, rfl, tx3, dts, 1 + nl tx3, rfl, by omega, hlex, fun H13 pa as s13 npa hpa hA => ?_⟩
      have hd13 := s13 _ _ hd12
      have hp13 := s13 _ _ hp12
      have hB13 := hB12.mono fun a xs ha => s13 _ _ ha
      have hP13 := hP12.mono fun a xs ha => s13 _ _ ha
      have hallt : ∀ t ∈ dts ++ [endT (1 + nl tx3)], t.1.cps.all (· < 0x110000) = true ∧ ValOk t.2.1 := fun t ht => by
        rcases List.mem_append.mp ht with ht | ht
        · exact hpc.toks t ht
        · rw [List.mem_singleton] at ht
          subst ht
          exact ⟨(show ((("end" : Str).cps.all (· < 0x110000)) = true) by decide +kernel), .inl ⟨[], rfl, by decide, by simp⟩⟩
      refine ⟨_, rfl, _, rfl, pa, d, as, bs ++ [t2], dts ++ [endT (1 + nl tx3)], rfl, hpa, hd13, hA, hB13, hallt, by rw [List.length_append, List.length_singleton]; omega, true, rfl, iteF ?_⟩
      -- the words and names among the pieces
      refine ⟨_, rfl, pp, rfl, ⟨_, SqL.of hp13⟩, for_list (xs := ps.map V.ref) (fun i σ' H' => ∃ y6 y8, σ' = [some (.ref l), some (.ref st), some (.str (S tx3)), some (.ref d), some (.ref pp), y5, y6, some (.ref pa), y8, none] ∧ H' = H13) ⟨y6, none, rfl, rfl⟩ (fun i σ' H' _ ⟨_, _, _, e⟩ => by rw [e]; exact SqL.of hp13) ?_ ?_⟩
      · rintro i xv σ' H' hi ⟨z6, z8, rfl, rfl⟩
        have hi2 : i < pcs.length := by
          have := (List.getElem?_eq_some_iff.mp hi).1
          rw [List.length_map] at this
          omega
        obtain ⟨⟨k, v, x⟩, hpt⟩ : ∃ t, pcs[i]? = some t := ⟨pcs[i], List.getElem?_eq_getElem hi2⟩
        obtain ⟨a, ha1, ha2⟩ := hP13.get hpt
        have hx : xv = .ref a := by
          rw [List.getElem?_map, ha1] at hi
          exact (Option.some.inj hi).symm
        subst hx
        have sa := SqT.of (K := K) ha2
        have hpk : Piece k v x := hpc.pieces _ (List.mem_of_getElem? hpt)
        dsimp only [gName]
        refine if_or (a := decide (V.str k = V.str "word")) (b := decide (V.str k = V.str "name")) (fun Q' q' => ⟨_, rfl, a, _, 0, _, rfl, rfl, sa, atI_nat (j := 0) rfl, rfl, _, rfl, q'⟩) (fun _ Q' q' => ⟨_, rfl, a, _, 0, _, rfl, rfl, sa, atI_nat (j := 0) rfl, rfl, _, rfl, q'⟩) ?_
        refine ite2 (fun hwn => ?_) (fun _ => ⟨_, _, rfl, rfl⟩)
        have hres : v = .str (S x) ∧ isRes x = decide (V.str k = V.str "word") := by
          rcases hpk with hpk | ⟨rfl, _, _⟩
          · rcases hpk.res with ⟨rfl, hv, hr⟩ | ⟨rfl, hv, hr⟩ | rfl
            · exact ⟨hv, by rw [hr]; rfl⟩
            · exact ⟨hv, by rw [hr]; rfl⟩
            · exact absurd hwn (by decide +kernel)
          · exact absurd hwn (by decide +kernel)
        obtain ⟨hv, hr⟩ := hres
        subst hv
        refine ⟨_, rfl, a, _, 1, _, rfl, rfl, sa, atI_nat (j := 1) rfl, x, rfl, ?_⟩
        dsimp only [gName]
        refine if_or (a := false) (b := false) (fun Q' q' => ⟨_, rfl, _, _, _, _, true, rfl, .ty _, .base (.bl _), kit_ty (by decide +kernel), true, rfl, q'⟩) (fun _ Q' q' => ⟨_, rfl, _, rfl, a, _, 0, _, rfl, rfl, sa, atI_nat (j := 0) rfl, rfl, rfl, false, ?_, q'⟩) (iteF ⟨_, _, rfl, rfl⟩)
        rw [hr, decide_eq_true rfl]
        rfl
      · rintro σ' H' ⟨z6, z8, rfl, rfl⟩
        -- spelled
        refine ⟨_, rfl, d, _, rfl, .inl (SqL.of hd13), fun q1 nq1 => ?_⟩
        refine ⟨q1, bs ++ [t2], dts, 1 + nl tx3, rfl, upd_same, hB13.mono fun a xs ha => same_new nq1 _ _ ha, fun t ht => (hpc.toks t ht).2, by omega, fun H14 s14 => ?_⟩
        have hp14 := s14 _ _ (same_new (o := .lst ((bs ++ [t2]).map V.ref)) nq1 _ _ hp13)
        have hP14 : PcsAt H14 ps pcs := hP13.mono fun a xs ha => s14 _ _ (same_new (o := .lst ((bs ++ [t2]).map V.ref)) nq1 _ _ ha)
        refine ⟨_, rfl, _, _, _, _, true, rfl, .ty _, .base (.str _), kit_ty (by decide +kernel), _, rfl, iteT ?_⟩
        refine ⟨_, rfl, rfl, _, rfl, pp, rfl, ⟨_, SqL.of hp14⟩, fun D hD => ?_⟩
        have hvs : ∀ p ∈ pcs, ValOk p.2.1 := fun p hp => (piece_len (hpc.pieces p hp)).2.1
        refine lc_list (xs := ps.map V.ref) (fun i H' => H' = upd H14 D (.lst (((pcs.take i).map fun p => p.2.1).map fun v => V.str (strOf v)))) rfl (fun i H' _ e => ?_) ?_ ?_
        · rw [e]
          exact SqL.of (same_new hD _ _ hp14)
        · rintro i xv H' hi rfl
          have hi2 : i < pcs.length := by
            have := (List.getElem?_eq_some_iff.mp hi).1
            rw [List.length_map] at this
            omega
          obtain ⟨pc, hpt⟩ : ∃ t, pcs[i]? = some t := ⟨pcs[i], List.getElem?_eq_getElem hi2⟩
          obtain ⟨a, ha1, ha2⟩ := hP14.get hpt
          have hx : xv = .ref a := by
            rw [List.getElem?_map, ha1] at hi
            exact (Option.some.inj hi).symm
          subst hx
          have sa := SqT.of (K := K) (same_new (o := .lst (((pcs.take i).map fun p => p.2.1).map fun v => V.str (strOf v))) hD _ _ ha2)
          have fin : ∀ z, z = strOf pc.2.1 → ∃ acc, (upd H14 D (.lst (((pcs.take i).map fun p => p.2.1).map fun v => V.str (strOf v)))) D = some (.lst acc) ∧ acc.length < sizeLine ∧
              upd (upd H14 D (.lst (((pcs.take i).map fun p => p.2.1).map fun v => V.str (strOf v)))) D (.lst (acc ++ [V.str z])) = upd H14 D (.lst (((pcs.take (i + 1)).map fun p => p.2.1).map fun v => V.str (strOf v))) := by
            rintro z rfl
            refine ⟨_, upd_same, ?_, ?_⟩
            · rw [List.length_map, List.length_map, List.length_take]
              exact small1000 (by omega)
            · rw [upd_upd, List.take_add_one, hpt, List.map_append, List.map_append]
              rfl
          refine ⟨rfl, ?_⟩
          refine ⟨_, rfl, a, _, 1, _, rfl, rfl, sa, atI_nat (j := 1) rfl, ?_⟩
          rcases hvs pc (List.mem_of_getElem? hpt) with ⟨z, hz, _⟩ | ⟨m, hm, hm2⟩
          · exact .inr ⟨S z, by rw [hz], fin _ (by rw [hz]; rfl)⟩
          · exact .inl ⟨(m : Int), by rw [hm], log_small hm2, fin _ (by rw [hm]; rfl)⟩
        · rintro H' rfl
          have el : (ps.map V.ref).length = pcs.length := by rw [List.length_map]; omega
          rw [el, List.take_length]
          refine ⟨" ", D, (pcs.map fun p => p.2.1).map strOf, rfl, rfl, .inl (SqL.of ?_), join_ok (fun v hv2 => ?_) (by rw [List.length_map]; omega), rfl, ?_⟩
          · rw [upd_same, List.map_map, List.map_map, List.map_map]
            rfl
          · obtain ⟨p, hp, rfl⟩ := List.mem_map.mp hv2
            exact hvs p hp
          · have e : (dts.map fun t => t.2.1) = pcs.map fun p => p.2.1 := hpc.same
            rw [e, decide_eq_true rfl]
            exact q _
end
def top_mk {P : Program} {w : World} {K : PySem.W.Frag} {h : Heap} {mg : Str → Option Value} (X : K.In h) (G : h.Ns mainGlobals mg)
    {a_decimal : Addr} {od_decimal an_decimal : Option Addr} {sl_decimal : Array (Option Value)} {oc_decimal kV_decimal dc_decimal pm_decimal cd_decimal ct_decimal : Value}
    {a_decimal_number : Addr} {od_decimal_number an_decimal_number : Option Addr} {sl_decimal_number : Array (Option Value)} {oc_decimal_number kV_decimal_number dc_decimal_number pm_decimal_number cd_decimal_number ct_decimal_number : Value}
    {a__spelled : Addr} {od__spelled an__spelled : Option Addr} {sl__spelled : Array (Option Value)} {oc__spelled kV__spelled dc__spelled pm__spelled cd__spelled ct__spelled : Value}
    {a__law_state : Addr} {od__law_state an__law_state : Option Addr} {sl__law_state : Array (Option Value)} {oc__law_state kV__law_state dc__law_state pm__law_state cd__law_state ct__law_state : Value}
    {a__law_draw : Addr} {od__law_draw an__law_draw : Option Addr} {sl__law_draw : Array (Option Value)} {oc__law_draw kV__law_draw dc__law_draw pm__law_draw cd__law_draw ct__law_draw : Value}
    {a__in_run : Addr} {od__in_run an__in_run : Option Addr} {sl__in_run : Array (Option Value)} {oc__in_run kV__in_run dc__in_run pm__in_run cd__in_run ct__in_run : Value}
    {a__run : Addr} {od__run an__run : Option Addr} {sl__run : Array (Option Value)} {oc__run kV__run dc__run pm__run cd__run ct__run : Value}
    {a__comment_end : Addr} {od__comment_end an__comment_end : Option Addr} {sl__comment_end : Array (Option Value)} {oc__comment_end kV__comment_end dc__comment_end pm__comment_end cd__comment_end ct__comment_end : Value}
    {a__longest_sign : Addr} {od__longest_sign an__longest_sign : Option Addr} {sl__longest_sign : Array (Option Value)} {oc__longest_sign kV__longest_sign dc__longest_sign pm__longest_sign cd__longest_sign ct__longest_sign : Value}
    {a__consists_of : Addr} {od__consists_of an__consists_of : Option Addr} {sl__consists_of : Array (Option Value)} {oc__consists_of kV__consists_of dc__consists_of pm__consists_of cd__consists_of ct__consists_of : Value}
    {a__hex_number : Addr} {od__hex_number an__hex_number : Option Addr} {sl__hex_number : Array (Option Value)} {oc__hex_number kV__hex_number dc__hex_number pm__hex_number cd__hex_number ct__hex_number : Value}
    {a__number : Addr} {od__number an__number : Option Addr} {sl__number : Array (Option Value)} {oc__number kV__number dc__number pm__number cd__number ct__number : Value}
    {a_is_reserved : Addr} {od_is_reserved an_is_reserved : Option Addr} {sl_is_reserved : Array (Option Value)} {oc_is_reserved kV_is_reserved dc_is_reserved pm_is_reserved cd_is_reserved ct_is_reserved : Value}
    {a__run_token : Addr} {od__run_token an__run_token : Option Addr} {sl__run_token : Array (Option Value)} {oc__run_token kV__run_token dc__run_token pm__run_token cd__run_token ct__run_token : Value}
    {a_tokenize : Addr} {od_tokenize an_tokenize : Option Addr} {sl_tokenize : Array (Option Value)} {oc_tokenize kV_tokenize dc_tokenize pm_tokenize cd_tokenize ct_tokenize : Value}
    {a_spell : Addr} {od_spell an_spell : Option Addr} {sl_spell : Array (Option Value)} {oc_spell kV_spell dc_spell pm_spell cd_spell ct_spell : Value}
    {a__law_words : Addr} {od__law_words an__law_words : Option Addr} {sl__law_words : Array (Option Value)} {oc__law_words kV__law_words dc__law_words pm__law_words cd__law_words ct__law_words : Value}
    {a__law_signs : Addr} {od__law_signs an__law_signs : Option Addr} {sl__law_signs : Array (Option Value)} {oc__law_signs kV__law_signs dc__law_signs pm__law_signs cd__law_signs ct__law_signs : Value}
    {a__law_comment : Addr} {od__law_comment an__law_comment : Option Addr} {sl__law_comment : Array (Option Value)} {oc__law_comment kV__law_comment dc__law_comment pm__law_comment cd__law_comment ct__law_comment : Value}
    {a__law_gap : Addr} {od__law_gap an__law_gap : Option Addr} {sl__law_gap : Array (Option Value)} {oc__law_gap kV__law_gap dc__law_gap pm__law_gap cd__law_gap ct__law_gap : Value}
    {a__law_number : Addr} {od__law_number an__law_number : Option Addr} {sl__law_number : Array (Option Value)} {oc__law_number kV__law_number dc__law_number pm__law_number cd__law_number ct__law_number : Value}
    {a__law_name : Addr} {od__law_name an__law_name : Option Addr} {sl__law_name : Array (Option Value)} {oc__law_name kV__law_name dc__law_name pm__law_name cd__law_name ct__law_name : Value}
    {a__law_hex : Addr} {od__law_hex an__law_hex : Option Addr} {sl__law_hex : Array (Option Value)} {oc__law_hex kV__law_hex dc__law_hex pm__law_hex cd__law_hex ct__law_hex : Value}
    {a__law_piece : Addr} {od__law_piece an__law_piece : Option Addr} {sl__law_piece : Array (Option Value)} {oc__law_piece kV__law_piece dc__law_piece pm__law_piece cd__law_piece ct__law_piece : Value}
    {a__law_apart : Addr} {od__law_apart an__law_apart : Option Addr} {sl__law_apart : Array (Option Value)} {oc__law_apart kV__law_apart dc__law_apart pm__law_apart cd__law_apart ct__law_apart : Value}
    {a__law_newlines : Addr} {od__law_newlines an__law_newlines : Option Addr} {sl__law_newlines : Array (Option Value)} {oc__law_newlines kV__law_newlines dc__law_newlines pm__law_newlines cd__law_newlines ct__law_newlines : Value}
    {a__law_same : Addr} {od__law_same an__law_same : Option Addr} {sl__law_same : Array (Option Value)} {oc__law_same kV__law_same dc__law_same pm__law_same cd__law_same ct__law_same : Value}
    {a_law : Addr} {od_law an_law : Option Addr} {sl_law : Array (Option Value)} {oc_law kV_law dc_law pm_law cd_law ct_law : Value}
    {t_PIECE : Tok}
    {t_PIECE_DIGITS : Tok}
    {t_GREATEST_WORD : Tok}
    {t_DIGITS : Tok}
    {t_LONGEST_DECIMAL : Tok}
    {t_LETTERS : Tok}
    {p_SIGNS : Addr} {n_SIGNS : Nat} {us_SIGNS : Array Value} {sl_SIGNS : Array (Option Value)}
    {t_HEX_DIGITS : Tok}
    {t_LONGEST_HEX : Tok}
    {p_RESERVED : Addr} {n_RESERVED : Nat} {us_RESERVED : Array Value} {sl_RESERVED : Array (Option Value)}
    {t_LONGEST_NAME : Tok}
    (n_decimal : PySem.W.nsIn K mainGlobals "decimal" = some (some (.ref a_decimal)))
    (n_decimal_number : PySem.W.nsIn K mainGlobals "decimal_number" = some (some (.ref a_decimal_number)))
    (n__spelled : PySem.W.nsIn K mainGlobals "_spelled" = some (some (.ref a__spelled)))
    (n__law_state : PySem.W.nsIn K mainGlobals "_law_state" = some (some (.ref a__law_state)))
    (n__law_draw : PySem.W.nsIn K mainGlobals "_law_draw" = some (some (.ref a__law_draw)))
    (n__in_run : PySem.W.nsIn K mainGlobals "_in_run" = some (some (.ref a__in_run)))
    (n__run : PySem.W.nsIn K mainGlobals "_run" = some (some (.ref a__run)))
    (n__comment_end : PySem.W.nsIn K mainGlobals "_comment_end" = some (some (.ref a__comment_end)))
    (n__longest_sign : PySem.W.nsIn K mainGlobals "_longest_sign" = some (some (.ref a__longest_sign)))
    (n__consists_of : PySem.W.nsIn K mainGlobals "_consists_of" = some (some (.ref a__consists_of)))
    (n__hex_number : PySem.W.nsIn K mainGlobals "_hex_number" = some (some (.ref a__hex_number)))
    (n__number : PySem.W.nsIn K mainGlobals "_number" = some (some (.ref a__number)))
    (n_is_reserved : PySem.W.nsIn K mainGlobals "is_reserved" = some (some (.ref a_is_reserved)))
    (n__run_token : PySem.W.nsIn K mainGlobals "_run_token" = some (some (.ref a__run_token)))
    (n_tokenize : PySem.W.nsIn K mainGlobals "tokenize" = some (some (.ref a_tokenize)))
    (n_spell : PySem.W.nsIn K mainGlobals "spell" = some (some (.ref a_spell)))
    (n__law_words : PySem.W.nsIn K mainGlobals "_law_words" = some (some (.ref a__law_words)))
    (n__law_signs : PySem.W.nsIn K mainGlobals "_law_signs" = some (some (.ref a__law_signs)))
    (n__law_comment : PySem.W.nsIn K mainGlobals "_law_comment" = some (some (.ref a__law_comment)))
    (n__law_gap : PySem.W.nsIn K mainGlobals "_law_gap" = some (some (.ref a__law_gap)))
    (n__law_number : PySem.W.nsIn K mainGlobals "_law_number" = some (some (.ref a__law_number)))
    (n__law_name : PySem.W.nsIn K mainGlobals "_law_name" = some (some (.ref a__law_name)))
    (n__law_hex : PySem.W.nsIn K mainGlobals "_law_hex" = some (some (.ref a__law_hex)))
    (n__law_piece : PySem.W.nsIn K mainGlobals "_law_piece" = some (some (.ref a__law_piece)))
    (n__law_apart : PySem.W.nsIn K mainGlobals "_law_apart" = some (some (.ref a__law_apart)))
    (n__law_newlines : PySem.W.nsIn K mainGlobals "_law_newlines" = some (some (.ref a__law_newlines)))
    (n__law_same : PySem.W.nsIn K mainGlobals "_law_same" = some (some (.ref a__law_same)))
    (n_law : PySem.W.nsIn K mainGlobals "law" = some (some (.ref a_law)))
    (l_decimal : K.lookup a_decimal = some ⟨oc_decimal, od_decimal, .func (PySem.W.fnOf "decimal" "decimal" (defArgs s_decimal) (defBody s_decimal) (defScope s_decimal) .none kV_decimal dc_decimal pm_decimal an_decimal cd_decimal ct_decimal), sl_decimal⟩)
    (c_decimal : PySem.W.codeIn K cd_decimal "decimal" = true)
    (k_decimal : PySem.W.keepIn K (.ref a_decimal) = true)
    (l_decimal_number : K.lookup a_decimal_number = some ⟨oc_decimal_number, od_decimal_number, .func (PySem.W.fnOf "decimal_number" "decimal_number" (defArgs s_decimal_number) (defBody s_decimal_number) (defScope s_decimal_number) .none kV_decimal_number dc_decimal_number pm_decimal_number an_decimal_number cd_decimal_number ct_decimal_number), sl_decimal_number⟩)
    (c_decimal_number : PySem.W.codeIn K cd_decimal_number "decimal_number" = true)
    (k_decimal_number : PySem.W.keepIn K (.ref a_decimal_number) = true)
    (l__spelled : K.lookup a__spelled = some ⟨oc__spelled, od__spelled, .func (PySem.W.fnOf "_spelled" "_spelled" (defArgs s__spelled) (defBody s__spelled) (defScope s__spelled) .none kV__spelled dc__spelled pm__spelled an__spelled cd__spelled ct__spelled), sl__spelled⟩)
    (c__spelled : PySem.W.codeIn K cd__spelled "_spelled" = true)
    (k__spelled : PySem.W.keepIn K (.ref a__spelled) = true)
    (l__law_state : K.lookup a__law_state = some ⟨oc__law_state, od__law_state, .func (PySem.W.fnOf "_law_state" "_law_state" (defArgs s__law_state) (defBody s__law_state) (defScope s__law_state) .none kV__law_state dc__law_state pm__law_state an__law_state cd__law_state ct__law_state), sl__law_state⟩)
    (c__law_state : PySem.W.codeIn K cd__law_state "_law_state" = true)
    (k__law_state : PySem.W.keepIn K (.ref a__law_state) = true)
    (l__law_draw : K.lookup a__law_draw = some ⟨oc__law_draw, od__law_draw, .func (PySem.W.fnOf "_law_draw" "_law_draw" (defArgs s__law_draw) (defBody s__law_draw) (defScope s__law_draw) .none kV__law_draw dc__law_draw pm__law_draw an__law_draw cd__law_draw ct__law_draw), sl__law_draw⟩)
    (c__law_draw : PySem.W.codeIn K cd__law_draw "_law_draw" = true)
    (k__law_draw : PySem.W.keepIn K (.ref a__law_draw) = true)
    (l__in_run : K.lookup a__in_run = some ⟨oc__in_run, od__in_run, .func (PySem.W.fnOf "_in_run" "_in_run" (defArgs s__in_run) (defBody s__in_run) (defScope s__in_run) .none kV__in_run dc__in_run pm__in_run an__in_run cd__in_run ct__in_run), sl__in_run⟩)
    (c__in_run : PySem.W.codeIn K cd__in_run "_in_run" = true)
    (k__in_run : PySem.W.keepIn K (.ref a__in_run) = true)
    (l__run : K.lookup a__run = some ⟨oc__run, od__run, .func (PySem.W.fnOf "_run" "_run" (defArgs s__run) (defBody s__run) (defScope s__run) .none kV__run dc__run pm__run an__run cd__run ct__run), sl__run⟩)
    (c__run : PySem.W.codeIn K cd__run "_run" = true)
    (k__run : PySem.W.keepIn K (.ref a__run) = true)
    (l__comment_end : K.lookup a__comment_end = some ⟨oc__comment_end, od__comment_end, .func (PySem.W.fnOf "_comment_end" "_comment_end" (defArgs s__comment_end) (defBody s__comment_end) (defScope s__comment_end) .none kV__comment_end dc__comment_end pm__comment_end an__comment_end cd__comment_end ct__comment_end), sl__comment_end⟩)
    (c__comment_end : PySem.W.codeIn K cd__comment_end "_comment_end" = true)
    (k__comment_end : PySem.W.keepIn K (.ref a__comment_end) = true)
    (l__longest_sign : K.lookup a__longest_sign = some ⟨oc__longest_sign, od__longest_sign, .func (PySem.W.fnOf "_longest_sign" "_longest_sign" (defArgs s__longest_sign) (defBody s__longest_sign) (defScope s__longest_sign) .none kV__longest_sign dc__longest_sign pm__longest_sign an__longest_sign cd__longest_sign ct__longest_sign), sl__longest_sign⟩)
    (c__longest_sign : PySem.W.codeIn K cd__longest_sign "_longest_sign" = true)
    (k__longest_sign : PySem.W.keepIn K (.ref a__longest_sign) = true)
    (l__consists_of : K.lookup a__consists_of = some ⟨oc__consists_of, od__consists_of, .func (PySem.W.fnOf "_consists_of" "_consists_of" (defArgs s__consists_of) (defBody s__consists_of) (defScope s__consists_of) .none kV__consists_of dc__consists_of pm__consists_of an__consists_of cd__consists_of ct__consists_of), sl__consists_of⟩)
    (c__consists_of : PySem.W.codeIn K cd__consists_of "_consists_of" = true)
    (k__consists_of : PySem.W.keepIn K (.ref a__consists_of) = true)
    (l__hex_number : K.lookup a__hex_number = some ⟨oc__hex_number, od__hex_number, .func (PySem.W.fnOf "_hex_number" "_hex_number" (defArgs s__hex_number) (defBody s__hex_number) (defScope s__hex_number) .none kV__hex_number dc__hex_number pm__hex_number an__hex_number cd__hex_number ct__hex_number), sl__hex_number⟩)
    (c__hex_number : PySem.W.codeIn K cd__hex_number "_hex_number" = true)
    (k__hex_number : PySem.W.keepIn K (.ref a__hex_number) = true)
    (l__number : K.lookup a__number = some ⟨oc__number, od__number, .func (PySem.W.fnOf "_number" "_number" (defArgs s__number) (defBody s__number) (defScope s__number) .none kV__number dc__number pm__number an__number cd__number ct__number), sl__number⟩)
    (c__number : PySem.W.codeIn K cd__number "_number" = true)
    (k__number : PySem.W.keepIn K (.ref a__number) = true)
    (l_is_reserved : K.lookup a_is_reserved = some ⟨oc_is_reserved, od_is_reserved, .func (PySem.W.fnOf "is_reserved" "is_reserved" (defArgs s_is_reserved) (defBody s_is_reserved) (defScope s_is_reserved) .none kV_is_reserved dc_is_reserved pm_is_reserved an_is_reserved cd_is_reserved ct_is_reserved), sl_is_reserved⟩)
    (c_is_reserved : PySem.W.codeIn K cd_is_reserved "is_reserved" = true)
    (k_is_reserved : PySem.W.keepIn K (.ref a_is_reserved) = true)
    (l__run_token : K.lookup a__run_token = some ⟨oc__run_token, od__run_token, .func (PySem.W.fnOf "_run_token" "_run_token" (defArgs s__run_token) (defBody s__run_token) (defScope s__run_token) .none kV__run_token dc__run_token pm__run_token an__run_token cd__run_token ct__run_token), sl__run_token⟩)
    (c__run_token : PySem.W.codeIn K cd__run_token "_run_token" = true)
    (k__run_token : PySem.W.keepIn K (.ref a__run_token) = true)
    (l_tokenize : K.lookup a_tokenize = some ⟨oc_tokenize, od_tokenize, .func (PySem.W.fnOf "tokenize" "tokenize" (defArgs s_tokenize) (defBody s_tokenize) (defScope s_tokenize) .none kV_tokenize dc_tokenize pm_tokenize an_tokenize cd_tokenize ct_tokenize), sl_tokenize⟩)
    (c_tokenize : PySem.W.codeIn K cd_tokenize "tokenize" = true)
    (k_tokenize : PySem.W.keepIn K (.ref a_tokenize) = true)
    (l_spell : K.lookup a_spell = some ⟨oc_spell, od_spell, .func (PySem.W.fnOf "spell" "spell" (defArgs s_spell) (defBody s_spell) (defScope s_spell) .none kV_spell dc_spell pm_spell an_spell cd_spell ct_spell), sl_spell⟩)
    (c_spell : PySem.W.codeIn K cd_spell "spell" = true)
    (k_spell : PySem.W.keepIn K (.ref a_spell) = true)
    (l__law_words : K.lookup a__law_words = some ⟨oc__law_words, od__law_words, .func (PySem.W.fnOf "_law_words" "_law_words" (defArgs s__law_words) (defBody s__law_words) (defScope s__law_words) .none kV__law_words dc__law_words pm__law_words an__law_words cd__law_words ct__law_words), sl__law_words⟩)
    (c__law_words : PySem.W.codeIn K cd__law_words "_law_words" = true)
    (k__law_words : PySem.W.keepIn K (.ref a__law_words) = true)
    (l__law_signs : K.lookup a__law_signs = some ⟨oc__law_signs, od__law_signs, .func (PySem.W.fnOf "_law_signs" "_law_signs" (defArgs s__law_signs) (defBody s__law_signs) (defScope s__law_signs) .none kV__law_signs dc__law_signs pm__law_signs an__law_signs cd__law_signs ct__law_signs), sl__law_signs⟩)
    (c__law_signs : PySem.W.codeIn K cd__law_signs "_law_signs" = true)
    (k__law_signs : PySem.W.keepIn K (.ref a__law_signs) = true)
    (l__law_comment : K.lookup a__law_comment = some ⟨oc__law_comment, od__law_comment, .func (PySem.W.fnOf "_law_comment" "_law_comment" (defArgs s__law_comment) (defBody s__law_comment) (defScope s__law_comment) .none kV__law_comment dc__law_comment pm__law_comment an__law_comment cd__law_comment ct__law_comment), sl__law_comment⟩)
    (c__law_comment : PySem.W.codeIn K cd__law_comment "_law_comment" = true)
    (k__law_comment : PySem.W.keepIn K (.ref a__law_comment) = true)
    (l__law_gap : K.lookup a__law_gap = some ⟨oc__law_gap, od__law_gap, .func (PySem.W.fnOf "_law_gap" "_law_gap" (defArgs s__law_gap) (defBody s__law_gap) (defScope s__law_gap) .none kV__law_gap dc__law_gap pm__law_gap an__law_gap cd__law_gap ct__law_gap), sl__law_gap⟩)
    (c__law_gap : PySem.W.codeIn K cd__law_gap "_law_gap" = true)
    (k__law_gap : PySem.W.keepIn K (.ref a__law_gap) = true)
    (l__law_number : K.lookup a__law_number = some ⟨oc__law_number, od__law_number, .func (PySem.W.fnOf "_law_number" "_law_number" (defArgs s__law_number) (defBody s__law_number) (defScope s__law_number) .none kV__law_number dc__law_number pm__law_number an__law_number cd__law_number ct__law_number), sl__law_number⟩)
    (c__law_number : PySem.W.codeIn K cd__law_number "_law_number" = true)
    (k__law_number : PySem.W.keepIn K (.ref a__law_number) = true)
    (l__law_name : K.lookup a__law_name = some ⟨oc__law_name, od__law_name, .func (PySem.W.fnOf "_law_name" "_law_name" (defArgs s__law_name) (defBody s__law_name) (defScope s__law_name) .none kV__law_name dc__law_name pm__law_name an__law_name cd__law_name ct__law_name), sl__law_name⟩)
    (c__law_name : PySem.W.codeIn K cd__law_name "_law_name" = true)
    (k__law_name : PySem.W.keepIn K (.ref a__law_name) = true)
    (l__law_hex : K.lookup a__law_hex = some ⟨oc__law_hex, od__law_hex, .func (PySem.W.fnOf "_law_hex" "_law_hex" (defArgs s__law_hex) (defBody s__law_hex) (defScope s__law_hex) .none kV__law_hex dc__law_hex pm__law_hex an__law_hex cd__law_hex ct__law_hex), sl__law_hex⟩)
    (c__law_hex : PySem.W.codeIn K cd__law_hex "_law_hex" = true)
    (k__law_hex : PySem.W.keepIn K (.ref a__law_hex) = true)
    (l__law_piece : K.lookup a__law_piece = some ⟨oc__law_piece, od__law_piece, .func (PySem.W.fnOf "_law_piece" "_law_piece" (defArgs s__law_piece) (defBody s__law_piece) (defScope s__law_piece) .none kV__law_piece dc__law_piece pm__law_piece an__law_piece cd__law_piece ct__law_piece), sl__law_piece⟩)
    (c__law_piece : PySem.W.codeIn K cd__law_piece "_law_piece" = true)
    (k__law_piece : PySem.W.keepIn K (.ref a__law_piece) = true)
    (l__law_apart : K.lookup a__law_apart = some ⟨oc__law_apart, od__law_apart, .func (PySem.W.fnOf "_law_apart" "_law_apart" (defArgs s__law_apart) (defBody s__law_apart) (defScope s__law_apart) .none kV__law_apart dc__law_apart pm__law_apart an__law_apart cd__law_apart ct__law_apart), sl__law_apart⟩)
    (c__law_apart : PySem.W.codeIn K cd__law_apart "_law_apart" = true)
    (k__law_apart : PySem.W.keepIn K (.ref a__law_apart) = true)
    (l__law_newlines : K.lookup a__law_newlines = some ⟨oc__law_newlines, od__law_newlines, .func (PySem.W.fnOf "_law_newlines" "_law_newlines" (defArgs s__law_newlines) (defBody s__law_newlines) (defScope s__law_newlines) .none kV__law_newlines dc__law_newlines pm__law_newlines an__law_newlines cd__law_newlines ct__law_newlines), sl__law_newlines⟩)
    (c__law_newlines : PySem.W.codeIn K cd__law_newlines "_law_newlines" = true)
    (k__law_newlines : PySem.W.keepIn K (.ref a__law_newlines) = true)
    (l__law_same : K.lookup a__law_same = some ⟨oc__law_same, od__law_same, .func (PySem.W.fnOf "_law_same" "_law_same" (defArgs s__law_same) (defBody s__law_same) (defScope s__law_same) .none kV__law_same dc__law_same pm__law_same an__law_same cd__law_same ct__law_same), sl__law_same⟩)
    (c__law_same : PySem.W.codeIn K cd__law_same "_law_same" = true)
    (k__law_same : PySem.W.keepIn K (.ref a__law_same) = true)
    (l_law : K.lookup a_law = some ⟨oc_law, od_law, .func (PySem.W.fnOf "law" "law" (defArgs s_law) (defBody s_law) (defScope s_law) .none kV_law dc_law pm_law an_law cd_law ct_law), sl_law⟩)
    (c_law : PySem.W.codeIn K cd_law "law" = true)
    (k_law : PySem.W.keepIn K (.ref a_law) = true)
    (z_str : PySem.W.nsIn K mainGlobals "str" = some none)
    (z_divmod : PySem.W.nsIn K mainGlobals "divmod" = some none)
    (z_abs : PySem.W.nsIn K mainGlobals "abs" = some none)
    (z_int : PySem.W.nsIn K mainGlobals "int" = some none)
    (z_len : PySem.W.nsIn K mainGlobals "len" = some none)
    (z_isinstance : PySem.W.nsIn K mainGlobals "isinstance" = some none)
    (z_all : PySem.W.nsIn K mainGlobals "all" = some none)
    (z_range : PySem.W.nsIn K mainGlobals "range" = some none)
    (z_bool : PySem.W.nsIn K mainGlobals "bool" = some none)
    (z_tuple : PySem.W.nsIn K mainGlobals "tuple" = some none)
    (z_list : PySem.W.nsIn K mainGlobals "list" = some none)
    (v_PIECE : PySem.W.nsIn K mainGlobals "PIECE" = some (some (.int 1000000000000000000 t_PIECE)))
    (v_PIECE_DIGITS : PySem.W.nsIn K mainGlobals "PIECE_DIGITS" = some (some (.int 18 t_PIECE_DIGITS)))
    (v_GREATEST_WORD : PySem.W.nsIn K mainGlobals "GREATEST_WORD" = some (some (.int 4294967295 t_GREATEST_WORD)))
    (v_DIGITS : PySem.W.nsIn K mainGlobals "DIGITS" = some (some (.str "0123456789" t_DIGITS)))
    (v_LONGEST_DECIMAL : PySem.W.nsIn K mainGlobals "LONGEST_DECIMAL" = some (some (.int 10 t_LONGEST_DECIMAL)))
    (v_LETTERS : PySem.W.nsIn K mainGlobals "LETTERS" = some (some (.str "abcdefghijklmnopqrstuvwxyzABCDEFGHIJKLMNOPQRSTUVWXYZ" t_LETTERS)))
    (v_SIGNS : PySem.W.nsIn K mainGlobals "SIGNS" = some (some (.ref p_SIGNS)))
    (w_SIGNS : K.lookup p_SIGNS = some ⟨.type "tuple", none, .seq us_SIGNS n_SIGNS, sl_SIGNS⟩)
    (y_SIGNS : Vals [.str "~<=", .str ":=", .str "<<", .str ">>", .str "<=", .str "~<", .str "==", .str "!=", .str ",", .str ";", .str ".", .str "(", .str ")", .str "[", .str "]", .str "+", .str "-", .str "*", .str "/", .str "&", .str "|", .str "^", .str "~", .str "!", .str "<"] us_SIGNS.toList)
    (v_HEX_DIGITS : PySem.W.nsIn K mainGlobals "HEX_DIGITS" = some (some (.str "0123456789abcdef" t_HEX_DIGITS)))
    (v_LONGEST_HEX : PySem.W.nsIn K mainGlobals "LONGEST_HEX" = some (some (.int 8 t_LONGEST_HEX)))
    (v_RESERVED : PySem.W.nsIn K mainGlobals "RESERVED" = some (some (.ref p_RESERVED)))
    (w_RESERVED : K.lookup p_RESERVED = some ⟨.type "tuple", none, .seq us_RESERVED n_RESERVED, sl_RESERVED⟩)
    (y_RESERVED : Vals [.str "system", .str "in", .str "out", .str "object", .str "cell", .str "operation", .str "give", .str "end", .str "task", .str "every", .str "within", .str "if", .str "else", .str "loop", .str "to", .str "while", .str "read", .str "write", .str "interrupt", .str "calls", .str "mod", .str "and", .str "or"] us_RESERVED.toList)
    (v_LONGEST_NAME : PySem.W.nsIn K mainGlobals "LONGEST_NAME" = some (some (.int 16 t_LONGEST_NAME))) :
    Top K mg :=
  { a_decimal := a_decimal,
    d_decimal := _,
    F_decimal := fun_mk (st := s_decimal) l_decimal c_decimal k_decimal,
    g_decimal := PySem.W.mg_of X G n_decimal,
    b_decimal := (fun_mk (st := s_decimal) l_decimal c_decimal k_decimal).binds (ps := ["n"]) fun _ _ _ _ _ _ us hl => match us, hl with | [_], _ => rfl,
    a_decimal_number := a_decimal_number,
    d_decimal_number := _,
    F_decimal_number := fun_mk (st := s_decimal_number) l_decimal_number c_decimal_number k_decimal_number,
    g_decimal_number := PySem.W.mg_of X G n_decimal_number,
    b_decimal_number := (fun_mk (st := s_decimal_number) l_decimal_number c_decimal_number k_decimal_number).binds (ps := ["run"]) fun _ _ _ _ _ _ us hl => match us, hl with | [_], _ => rfl,
    a__spelled := a__spelled,
    d__spelled := _,
    F__spelled := fun_mk (st := s__spelled) l__spelled c__spelled k__spelled,
    g__spelled := PySem.W.mg_of X G n__spelled,
    b__spelled := (fun_mk (st := s__spelled) l__spelled c__spelled k__spelled).binds (ps := ["value"]) fun _ _ _ _ _ _ us hl => match us, hl with | [_], _ => rfl,
    a__law_state := a__law_state,
    d__law_state := _,
    F__law_state := fun_mk (st := s__law_state) l__law_state c__law_state k__law_state,
    g__law_state := PySem.W.mg_of X G n__law_state,
    b__law_state := (fun_mk (st := s__law_state) l__law_state c__law_state k__law_state).binds (ps := ["script"]) fun _ _ _ _ _ _ us hl => match us, hl with | [_], _ => rfl,
    a__law_draw := a__law_draw,
    d__law_draw := _,
    F__law_draw := fun_mk (st := s__law_draw) l__law_draw c__law_draw k__law_draw,
    g__law_draw := PySem.W.mg_of X G n__law_draw,
    b__law_draw := (fun_mk (st := s__law_draw) l__law_draw c__law_draw k__law_draw).binds (ps := ["state", "many"]) fun _ _ _ _ _ _ us hl => match us, hl with | [_, _], _ => rfl,
    a__in_run := a__in_run,
    d__in_run := _,
    F__in_run := fun_mk (st := s__in_run) l__in_run c__in_run k__in_run,
    g__in_run := PySem.W.mg_of X G n__in_run,
    b__in_run := (fun_mk (st := s__in_run) l__in_run c__in_run k__in_run).binds (ps := ["character"]) fun _ _ _ _ _ _ us hl => match us, hl with | [_], _ => rfl,
    a__run := a__run,
    d__run := _,
    F__run := fun_mk (st := s__run) l__run c__run k__run,
    g__run := PySem.W.mg_of X G n__run,
    b__run := (fun_mk (st := s__run) l__run c__run k__run).binds (ps := ["text", "at"]) fun _ _ _ _ _ _ us hl => match us, hl with | [_, _], _ => rfl,
    a__comment_end := a__comment_end,
    d__comment_end := _,
    F__comment_end := fun_mk (st := s__comment_end) l__comment_end c__comment_end k__comment_end,
    g__comment_end := PySem.W.mg_of X G n__comment_end,
    b__comment_end := (fun_mk (st := s__comment_end) l__comment_end c__comment_end k__comment_end).binds (ps := ["text", "at"]) fun _ _ _ _ _ _ us hl => match us, hl with | [_, _], _ => rfl,
    a__longest_sign := a__longest_sign,
    d__longest_sign := _,
    F__longest_sign := fun_mk (st := s__longest_sign) l__longest_sign c__longest_sign k__longest_sign,
    g__longest_sign := PySem.W.mg_of X G n__longest_sign,
    b__longest_sign := (fun_mk (st := s__longest_sign) l__longest_sign c__longest_sign k__longest_sign).binds (ps := ["text", "at"]) fun _ _ _ _ _ _ us hl => match us, hl with | [_, _], _ => rfl,
    a__consists_of := a__consists_of,
    d__consists_of := _,
    F__consists_of := fun_mk (st := s__consists_of) l__consists_of c__consists_of k__consists_of,
    g__consists_of := PySem.W.mg_of X G n__consists_of,
    b__consists_of := (fun_mk (st := s__consists_of) l__consists_of c__consists_of k__consists_of).binds (ps := ["run", "allowed"]) fun _ _ _ _ _ _ us hl => match us, hl with | [_, _], _ => rfl,
    a__hex_number := a__hex_number,
    d__hex_number := _,
    F__hex_number := fun_mk (st := s__hex_number) l__hex_number c__hex_number k__hex_number,
    g__hex_number := PySem.W.mg_of X G n__hex_number,
    b__hex_number := (fun_mk (st := s__hex_number) l__hex_number c__hex_number k__hex_number).binds (ps := ["digits"]) fun _ _ _ _ _ _ us hl => match us, hl with | [_], _ => rfl,
    a__number := a__number,
    d__number := _,
    F__number := fun_mk (st := s__number) l__number c__number k__number,
    g__number := PySem.W.mg_of X G n__number,
    b__number := (fun_mk (st := s__number) l__number c__number k__number).binds (ps := ["run"]) fun _ _ _ _ _ _ us hl => match us, hl with | [_], _ => rfl,
    a_is_reserved := a_is_reserved,
    d_is_reserved := _,
    F_is_reserved := fun_mk (st := s_is_reserved) l_is_reserved c_is_reserved k_is_reserved,
    g_is_reserved := PySem.W.mg_of X G n_is_reserved,
    b_is_reserved := (fun_mk (st := s_is_reserved) l_is_reserved c_is_reserved k_is_reserved).binds (ps := ["name"]) fun _ _ _ _ _ _ us hl => match us, hl with | [_], _ => rfl,
    a__run_token := a__run_token,
    d__run_token := _,
    F__run_token := fun_mk (st := s__run_token) l__run_token c__run_token k__run_token,
    g__run_token := PySem.W.mg_of X G n__run_token,
    b__run_token := (fun_mk (st := s__run_token) l__run_token c__run_token k__run_token).binds (ps := ["run", "line"]) fun _ _ _ _ _ _ us hl => match us, hl with | [_, _], _ => rfl,
    a_tokenize := a_tokenize,
    d_tokenize := _,
    F_tokenize := fun_mk (st := s_tokenize) l_tokenize c_tokenize k_tokenize,
    g_tokenize := PySem.W.mg_of X G n_tokenize,
    b_tokenize := (fun_mk (st := s_tokenize) l_tokenize c_tokenize k_tokenize).binds (ps := ["text"]) fun _ _ _ _ _ _ us hl => match us, hl with | [_], _ => rfl,
    a_spell := a_spell,
    d_spell := _,
    F_spell := fun_mk (st := s_spell) l_spell c_spell k_spell,
    g_spell := PySem.W.mg_of X G n_spell,
    b_spell := (fun_mk (st := s_spell) l_spell c_spell k_spell).binds (ps := ["tokens"]) fun _ _ _ _ _ _ us hl => match us, hl with | [_], _ => rfl,
    a__law_words := a__law_words,
    d__law_words := _,
    F__law_words := fun_mk (st := s__law_words) l__law_words c__law_words k__law_words,
    g__law_words := PySem.W.mg_of X G n__law_words,
    b__law_words := (fun_mk (st := s__law_words) l__law_words c__law_words k__law_words).binds (ps := []) fun _ _ _ _ _ _ us hl => match us, hl with | [], _ => rfl,
    a__law_signs := a__law_signs,
    d__law_signs := _,
    F__law_signs := fun_mk (st := s__law_signs) l__law_signs c__law_signs k__law_signs,
    g__law_signs := PySem.W.mg_of X G n__law_signs,
    b__law_signs := (fun_mk (st := s__law_signs) l__law_signs c__law_signs k__law_signs).binds (ps := []) fun _ _ _ _ _ _ us hl => match us, hl with | [], _ => rfl,
    a__law_comment := a__law_comment,
    d__law_comment := _,
    F__law_comment := fun_mk (st := s__law_comment) l__law_comment c__law_comment k__law_comment,
    g__law_comment := PySem.W.mg_of X G n__law_comment,
    b__law_comment := (fun_mk (st := s__law_comment) l__law_comment c__law_comment k__law_comment).binds (ps := ["state"]) fun _ _ _ _ _ _ us hl => match us, hl with | [_], _ => rfl,
    a__law_gap := a__law_gap,
    d__law_gap := _,
    F__law_gap := fun_mk (st := s__law_gap) l__law_gap c__law_gap k__law_gap,
    g__law_gap := PySem.W.mg_of X G n__law_gap,
    b__law_gap := (fun_mk (st := s__law_gap) l__law_gap c__law_gap k__law_gap).binds (ps := ["state"]) fun _ _ _ _ _ _ us hl => match us, hl with | [_], _ => rfl,
    a__law_number := a__law_number,
    d__law_number := _,
    F__law_number := fun_mk (st := s__law_number) l__law_number c__law_number k__law_number,
    g__law_number := PySem.W.mg_of X G n__law_number,
    b__law_number := (fun_mk (st := s__law_number) l__law_number c__law_number k__law_number).binds (ps := ["state"]) fun _ _ _ _ _ _ us hl => match us, hl with | [_], _ => rfl,
    a__law_name := a__law_name,
    d__law_name := _,
    F__law_name := fun_mk (st := s__law_name) l__law_name c__law_name k__law_name,
    g__law_name := PySem.W.mg_of X G n__law_name,
    b__law_name := (fun_mk (st := s__law_name) l__law_name c__law_name k__law_name).binds (ps := ["state"]) fun _ _ _ _ _ _ us hl => match us, hl with | [_], _ => rfl,
    a__law_hex := a__law_hex,
    d__law_hex := _,
    F__law_hex := fun_mk (st := s__law_hex) l__law_hex c__law_hex k__law_hex,
    g__law_hex := PySem.W.mg_of X G n__law_hex,
    b__law_hex := (fun_mk (st := s__law_hex) l__law_hex c__law_hex k__law_hex).binds (ps := ["n", "size"]) fun _ _ _ _ _ _ us hl => match us, hl with | [_, _], _ => rfl,
    a__law_piece := a__law_piece,
    d__law_piece := _,
    F__law_piece := fun_mk (st := s__law_piece) l__law_piece c__law_piece k__law_piece,
    g__law_piece := PySem.W.mg_of X G n__law_piece,
    b__law_piece := (fun_mk (st := s__law_piece) l__law_piece c__law_piece k__law_piece).binds (ps := ["state"]) fun _ _ _ _ _ _ us hl => match us, hl with | [_], _ => rfl,
    a__law_apart := a__law_apart,
    d__law_apart := _,
    F__law_apart := fun_mk (st := s__law_apart) l__law_apart c__law_apart k__law_apart,
    g__law_apart := PySem.W.mg_of X G n__law_apart,
    b__law_apart := (fun_mk (st := s__law_apart) l__law_apart c__law_apart k__law_apart).binds (ps := ["before", "behind"]) fun _ _ _ _ _ _ us hl => match us, hl with | [_, _], _ => rfl,
    a__law_newlines := a__law_newlines,
    d__law_newlines := _,
    F__law_newlines := fun_mk (st := s__law_newlines) l__law_newlines c__law_newlines k__law_newlines,
    g__law_newlines := PySem.W.mg_of X G n__law_newlines,
    b__law_newlines := (fun_mk (st := s__law_newlines) l__law_newlines c__law_newlines k__law_newlines).binds (ps := ["text"]) fun _ _ _ _ _ _ us hl => match us, hl with | [_], _ => rfl,
    a__law_same := a__law_same,
    d__law_same := _,
    F__law_same := fun_mk (st := s__law_same) l__law_same c__law_same k__law_same,
    g__law_same := PySem.W.mg_of X G n__law_same,
    b__law_same := (fun_mk (st := s__law_same) l__law_same c__law_same k__law_same).binds (ps := ["actual", "due"]) fun _ _ _ _ _ _ us hl => match us, hl with | [_, _], _ => rfl,
    a_law := a_law,
    d_law := _,
    F_law := fun_mk (st := s_law) l_law c_law k_law,
    g_law := PySem.W.mg_of X G n_law,
    b_law := (fun_mk (st := s_law) l_law c_law k_law).binds (ps := ["script"]) fun _ _ _ _ _ _ us hl => match us, hl with | [_], _ => rfl,
    m_str := PySem.W.mg_none_of X G z_str,
    m_divmod := PySem.W.mg_none_of X G z_divmod,
    m_abs := PySem.W.mg_none_of X G z_abs,
    m_int := PySem.W.mg_none_of X G z_int,
    m_len := PySem.W.mg_none_of X G z_len,
    m_isinstance := PySem.W.mg_none_of X G z_isinstance,
    m_all := PySem.W.mg_none_of X G z_all,
    m_range := PySem.W.mg_none_of X G z_range,
    m_bool := PySem.W.mg_none_of X G z_bool,
    m_tuple := PySem.W.mg_none_of X G z_tuple,
    m_list := PySem.W.mg_none_of X G z_list,
    t_PIECE := t_PIECE,
    c_PIECE := PySem.W.mg_of X G v_PIECE,
    t_PIECE_DIGITS := t_PIECE_DIGITS,
    c_PIECE_DIGITS := PySem.W.mg_of X G v_PIECE_DIGITS,
    t_GREATEST_WORD := t_GREATEST_WORD,
    c_GREATEST_WORD := PySem.W.mg_of X G v_GREATEST_WORD,
    t_DIGITS := t_DIGITS,
    c_DIGITS := PySem.W.mg_of X G v_DIGITS,
    t_LONGEST_DECIMAL := t_LONGEST_DECIMAL,
    c_LONGEST_DECIMAL := PySem.W.mg_of X G v_LONGEST_DECIMAL,
    t_LETTERS := t_LETTERS,
    c_LETTERS := PySem.W.mg_of X G v_LETTERS,
    p_SIGNS := p_SIGNS,
    c_SIGNS := PySem.W.mg_of X G v_SIGNS,
    l_SIGNS := ⟨_, w_SIGNS, rfl, rfl⟩,
    q_SIGNS := fun H => sqT_lit w_SIGNS y_SIGNS,
    t_HEX_DIGITS := t_HEX_DIGITS,
    c_HEX_DIGITS := PySem.W.mg_of X G v_HEX_DIGITS,
    t_LONGEST_HEX := t_LONGEST_HEX,
    c_LONGEST_HEX := PySem.W.mg_of X G v_LONGEST_HEX,
    p_RESERVED := p_RESERVED,
    c_RESERVED := PySem.W.mg_of X G v_RESERVED,
    l_RESERVED := ⟨_, w_RESERVED, rfl, rfl⟩,
    q_RESERVED := fun H => sqT_lit w_RESERVED y_RESERVED,
    t_LONGEST_NAME := t_LONGEST_NAME,
    c_LONGEST_NAME := PySem.W.mg_of X G v_LONGEST_NAME }
theorem all_mk {l : PySem.W.OpenLaw} {w : World} {K : PySem.W.Frag} {mg : Str → Option Value} {fa : Addr} (T : Top K mg) (hfa : mg "law" = some (.ref fa)) :
    ∃ fd : FuncData, (∀ (s : Shared) (v : Value), BindsTo s fd ⟨[v], []⟩ [("script", v)]) ∧ ∀ base : Heap, K.In base → base.Ns mainGlobals mg → FnOk l.prog w K mg base CX0 6 fa fd ["script"] (sp_law K) := by
  have e := hfa.symm.trans T.g_law
  cases e
  refine ⟨T.d_law, fun s v => ?_, fun base _ _ => ok_law T⟩
  obtain ⟨oc, od, kV, doc, pm, an, cdv, ct, osl, e, lk, hcd⟩ := T.F_law.ex
  rw [e]
  exact .of_eq rfl
end Mine
open PySem PySem.W PyProof.Rows
set_option maxHeartbeats 0 in
theorem PySem.Challenge.cw_deadbeat_k03_tokens_of_a_text_holds : PySem.Challenge.rw_deadbeat_k03_tokens_of_a_text.Holds := by
  w_on; o_law; k_head; (case hw => w_witness2)
  k_fill
  refine L2.walk_of (l := PySem.Challenge.rw_deadbeat_k03_tokens_of_a_text) (n := 63) (k := 6) (x := "script") (CX := fun _ => L2.CX0) (sp := fun w => Mine.sp_law _) rfl (by decide) rfl ⟨rfl, by decide, by decide⟩ (fun w h Y => PySem.W.kIn_of Y) ?F (fun _ _ a ns hl _ hS => ⟨a, ns, rfl, hS, hl, fun _ => rfl⟩) (fun _ _ _ _ _ h => h)
  case F =>
    intro w mg fa h KX G hmg
    refine' Mine.all_mk (Mine.top_mk (P := PySem.Challenge.rw_deadbeat_k03_tokens_of_a_text.prog) (w := w) KX G ?n_decimal ?n_decimal_number ?n__spelled ?n__law_state ?n__law_draw ?n__in_run ?n__run ?n__comment_end ?n__longest_sign ?n__consists_of ?n__hex_number ?n__number ?n_is_reserved ?n__run_token ?n_tokenize ?n_spell ?n__law_words ?n__law_signs ?n__law_comment ?n__law_gap ?n__law_number ?n__law_name ?n__law_hex ?n__law_piece ?n__law_apart ?n__law_newlines ?n__law_same ?n_law ?l_decimal ?c_decimal ?k_decimal ?l_decimal_number ?c_decimal_number ?k_decimal_number ?l__spelled ?c__spelled ?k__spelled ?l__law_state ?c__law_state ?k__law_state ?l__law_draw ?c__law_draw ?k__law_draw ?l__in_run ?c__in_run ?k__in_run ?l__run ?c__run ?k__run ?l__comment_end ?c__comment_end ?k__comment_end ?l__longest_sign ?c__longest_sign ?k__longest_sign ?l__consists_of ?c__consists_of ?k__consists_of ?l__hex_number ?c__hex_number ?k__hex_number ?l__number ?c__number ?k__number ?l_is_reserved ?c_is_reserved ?k_is_reserved ?l__run_token ?c__run_token ?k__run_token ?l_tokenize ?c_tokenize ?k_tokenize ?l_spell ?c_spell ?k_spell ?l__law_words ?c__law_words ?k__law_words ?l__law_signs ?c__law_signs ?k__law_signs ?l__law_comment ?c__law_comment ?k__law_comment ?l__law_gap ?c__law_gap ?k__law_gap ?l__law_number ?c__law_number ?k__law_number ?l__law_name ?c__law_name ?k__law_name ?l__law_hex ?c__law_hex ?k__law_hex ?l__law_piece ?c__law_piece ?k__law_piece ?l__law_apart ?c__law_apart ?k__law_apart ?l__law_newlines ?c__law_newlines ?k__law_newlines ?l__law_same ?c__law_same ?k__law_same ?l_law ?c_law ?k_law ?z_str ?z_divmod ?z_abs ?z_int ?z_len ?z_isinstance ?z_all ?z_range ?z_bool ?z_tuple ?z_list ?v_PIECE ?v_PIECE_DIGITS ?v_GREATEST_WORD ?v_DIGITS ?v_LONGEST_DECIMAL ?v_LETTERS ?v_SIGNS ?w_SIGNS ?y_SIGNS ?v_HEX_DIGITS ?v_LONGEST_HEX ?v_RESERVED ?w_RESERVED ?y_RESERVED ?v_LONGEST_NAME) hmg
    (case n_decimal => k_is); (case n_decimal_number => k_is); (case n__spelled => k_is); (case n__law_state => k_is); (case n__law_draw => k_is); (case n__in_run => k_is); (case n__run => k_is); (case n__comment_end => k_is); (case n__longest_sign => k_is); (case n__consists_of => k_is); (case n__hex_number => k_is); (case n__number => k_is); (case n_is_reserved => k_is); (case n__run_token => k_is); (case n_tokenize => k_is); (case n_spell => k_is); (case n__law_words => k_is); (case n__law_signs => k_is); (case n__law_comment => k_is); (case n__law_gap => k_is); (case n__law_number => k_is); (case n__law_name => k_is); (case n__law_hex => k_is); (case n__law_piece => k_is); (case n__law_apart => k_is); (case n__law_newlines => k_is); (case n__law_same => k_is); (case n_law => k_is); (case l_decimal => k_is); (case c_decimal => k_is); (case k_decimal => k_is); (case l_decimal_number => k_is); (case c_decimal_number => k_is); (case k_decimal_number => k_is); (case l__spelled => k_is); (case c__spelled => k_is); (case k__spelled => k_is); (case l__law_state => k_is); (case c__law_state => k_is); (case k__law_state => k_is); (case l__law_draw => k_is); (case c__law_draw => k_is); (case k__law_draw => k_is); (case l__in_run => k_is); (case c__in_run => k_is); (case k__in_run => k_is); (case l__run => k_is); (case c__run => k_is); (case k__run => k_is); (case l__comment_end => k_is); (case c__comment_end => k_is); (case k__comment_end => k_is); (case l__longest_sign => k_is); (case c__longest_sign => k_is); (case k__longest_sign => k_is); (case l__consists_of => k_is); (case c__consists_of => k_is); (case k__consists_of => k_is); (case l__hex_number => k_is); (case c__hex_number => k_is); (case k__hex_number => k_is); (case l__number => k_is); (case c__number => k_is); (case k__number => k_is); (case l_is_reserved => k_is); (case c_is_reserved => k_is); (case k_is_reserved => k_is); (case l__run_token => k_is); (case c__run_token => k_is); (case k__run_token => k_is); (case l_tokenize => k_is); (case c_tokenize => k_is); (case k_tokenize => k_is); (case l_spell => k_is); (case c_spell => k_is); (case k_spell => k_is); (case l__law_words => k_is); (case c__law_words => k_is); (case k__law_words => k_is); (case l__law_signs => k_is); (case c__law_signs => k_is); (case k__law_signs => k_is); (case l__law_comment => k_is); (case c__law_comment => k_is); (case k__law_comment => k_is); (case l__law_gap => k_is); (case c__law_gap => k_is); (case k__law_gap => k_is); (case l__law_number => k_is); (case c__law_number => k_is); (case k__law_number => k_is); (case l__law_name => k_is); (case c__law_name => k_is); (case k__law_name => k_is); (case l__law_hex => k_is); (case c__law_hex => k_is); (case k__law_hex => k_is); (case l__law_piece => k_is); (case c__law_piece => k_is); (case k__law_piece => k_is); (case l__law_apart => k_is); (case c__law_apart => k_is); (case k__law_apart => k_is); (case l__law_newlines => k_is); (case c__law_newlines => k_is); (case k__law_newlines => k_is); (case l__law_same => k_is); (case c__law_same => k_is); (case k__law_same => k_is); (case l_law => k_is); (case c_law => k_is); (case k_law => k_is); (case z_str => k_is); (case z_divmod => k_is); (case z_abs => k_is); (case z_int => k_is); (case z_len => k_is); (case z_isinstance => k_is); (case z_all => k_is); (case z_range => k_is); (case z_bool => k_is); (case z_tuple => k_is); (case z_list => k_is); (case v_PIECE => k_is); (case v_PIECE_DIGITS => k_is); (case v_GREATEST_WORD => k_is); (case v_DIGITS => k_is); (case v_LONGEST_DECIMAL => k_is); (case v_LETTERS => k_is); (case v_SIGNS => k_is); (case w_SIGNS => k_is); (case y_SIGNS => first | k_is | (repeat (first | exact .nil | refine .cons ⟨_, rfl⟩ ?_))); (case v_HEX_DIGITS => k_is); (case v_LONGEST_HEX => k_is); (case v_RESERVED => k_is); (case w_RESERVED => k_is); (case y_RESERVED => first | k_is | (repeat (first | exact .nil | refine .cons ⟨_, rfl⟩ ?_))); (case v_LONGEST_NAME => k_is)

