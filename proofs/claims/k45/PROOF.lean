import PyProof.Rows.All
import Wide.All
import OpenK.AllK
import Wide.FinOn
import PyProof.RulesMatch
import HandS.Base
import HandS.Call
import HandS.Words
import HandS.IsInst
import HandS.ForExc
import HandS.Zip
import HandS.Walk
import HandS.Strs
import HandS.ForMost
import HandS.Evl
import HandS.SortInts
import PySem.Challenge.RW_deadbeat_k45_least_window
import HandS.Wide
import HandS.WideBits
import HandS.Style
import HandS.StrMore
import HandS.IntHex
import HandS.ReSub
import HandS.Codes
import HandS.RaiseMore
import HandS.More
import HandS.SetFor
import HandS.TupLe
import HandS.List
import HandS.SortRule
import HandS.Deep
import HandS.DeepEq
set_option Elab.async false
set_option linter.all false
set_option maxRecDepth 100000
namespace L2
open PySem PySem.Spec PyProof.Rows
/-- the cases of a match over texts: a written text or whatever is left, and what is done -/
def tCases (z : Str) : List (Option Str × TS) → TS
  | [] => fun D σ H => D.nx σ H
  | (none, t) :: _ => t
  | (some c, t) :: r => fun D σ H => if z = c then t D σ H else tCases z r D σ H
def tMatch (te : TE) (l : List (Option Str × TS)) : TS := fun D σ H => te σ H fun x H1 => ∃ z : Str, x = .str z ∧ tCases z l D σ H1
inductive PCs (X : Cx) : List MatchCase → List (Option Str × TS) → Prop
  | nil : PCs X [] []
  | rest {body : List Stmt} {t : TS} {p : Pos} {r : List MatchCase} : PSs X body t → PCs X (⟨.MatchAs none none p, none, body⟩ :: r) [(none, t)]
  | text {body : List Stmt} {t : TS} {c : Str} {j : Nat} {p p2 : Pos} {r : List MatchCase} {l : List (Option Str × TS)} : PSs X body t → PCs X r l →
      PCs X (⟨.MatchValue (.Constant (.str c) j p) p2, none, body⟩ :: r) ((some c, t) :: l)
theorem run_cases {X : Cx} {z : Str} {u : Value} (ru : RelV (.str z) u) : ∀ {cs : List MatchCase} {l : List (Option Str × TS)}, PCs X cs l → ∀ (first : Bool) (pins : List (Addr × Obj)) (s : Shared) (σ : St) (H : Hp) (D : Ends), Inv X pins σ H s → tCases z l D σ H →
    wpAny (model X.prog X.w) X.A (matchCases cs X.env u first) (SP X pins D) X.xe s
  | _, _, .nil, first, pins, s, σ, H, D, I, h => wpAny_matchCases_nil ⟨σ, H, I, h⟩
  | _, _, .rest hb, first, pins, s, σ, H, D, I, h => by
    refine wpAny_matchCases_cons (wpAny_matchPattern_Capture ?_)
    exact wpAny_assignInOrder_none (hb.run pins s σ H D I h)
  | _, _, .text (c := c) (l := l) hb hr, first, pins, s, σ, H, D, I, h => by
    refine wpAny_matchCases_cons (wpAny_matchPattern_Value ?_)
    refine thn ((pe_str (X := X) (x := c)).run pins s σ H (fun v H' => v = .str c ∧ H' = H) I ⟨rfl, rfl⟩) fun v s1 hh => ?_
    obtain ⟨x, H1, I1, rx, ex, eH⟩ := hh
    subst ex
    subst eH
    refine thn (op_eq pins s1 σ H1 (.str z) (.str c) u v (fun y H' => y = .bl (decide (V.str z = V.str c)) ∧ H' = H1) I1 ru rx ⟨rfl, rfl, rfl⟩) fun y s2 hh => ?_
    obtain ⟨x, H2, I2, rx2, ex, eH⟩ := hh
    subst ex
    subst eH
    cases rx2
    refine wpAny_truthy_bool ?_
    have h' : (if z = c then _ else _) := h
    by_cases e : z = c
    · rw [if_pos e] at h'
      rw [decide_eq_true (by rw [e])]
      exact wpAny_assignInOrder_none (hb.run pins s2 σ H2 D I2 h')
    · rw [if_neg e] at h'
      rw [decide_eq_false (fun q => e (by injection q))]
      exact run_cases ru hr false pins s2 σ H2 D I2 h'
theorem ps_match {X : Cx} {e : Expr} {te : TE} {cs : List MatchCase} {l : List (Option Str × TS)} {pos : Pos} (he : PE X e te) (hc : PCs X cs l) : PS X (.Match e cs pos) (tMatch te l) := by
  refine ⟨fun pins s σ H D I h => wpAny_Match ?_⟩
  refine thn (he.run pins s σ H _ I h) fun u s1 hh => ?_
  obtain ⟨x, H1, I1, rx, z, ez, hz⟩ := hh
  subst ez
  exact run_cases rx hc true pins s1 σ H1 D I1 hz
/-- a module's constant: an int, a text, an object -/
theorem pe_gi {X : Cx} {x : Str} {n : Int} {t : Tok} {pos : Pos} (hg : Gl X x) (hm : X.mg x = some (.int n t)) (hd : (x == ("__debug__" : Str)) = false := by decide) : PE X (.Name x pos) (tC (.int n)) := pe_glob hg hm ⟨_, rfl⟩ hd
theorem pe_gs {X : Cx} {x : Str} {z : Str} {t : Tok} {pos : Pos} (hg : Gl X x) (hm : X.mg x = some (.str z t)) (hd : (x == ("__debug__" : Str)) = false := by decide) : PE X (.Name x pos) (tC (.str z)) := pe_glob hg hm ⟨_, rfl⟩ hd
theorem pe_gr {X : Cx} {x : Str} {a : Addr} {pos : Pos} (hg : Gl X x) (hm : X.mg x = some (.ref a)) (hd : (x == ("__debug__" : Str)) = false := by decide) : PE X (.Name x pos) (tC (.ref a)) := pe_glob (v := .ref a) hg hm rfl hd
/-- a built-in type as a value -/
theorem pe_ty {X : Cx} {x : Str} {T : String} {pos : Pos} (hg : Gl X x) (hm : X.mg x = none) (hv : bootBuiltins x = some (.type T)) (hn : x ≠ "__name__" := by decide) (hd : (x == ("__debug__" : Str)) = false := by decide) : PE X (.Name x pos) (tC (.ty T)) :=
  ⟨fun _ s _ H _ I h => ld_blt I hg hm hv ⟨.ty T, H, I, rfl, h⟩ hn hd⟩
/-- isinstance of a plain value and a built-in type -/
theorem isi_int {K : PySem.W.Frag} {H : Hp} {Q : VK} {i : Int} (q : Q (.bl true) H) : rIsi K [.int i, .ty "int"] H Q := ⟨_, _, _, _, true, rfl, .ty _, .base (.int _), kit_ty (by decide +kernel), q⟩
theorem isi_int_bool {K : PySem.W.Frag} {H : Hp} {Q : VK} {i : Int} (q : Q (.bl false) H) : rIsi K [.int i, .ty "bool"] H Q := ⟨_, _, _, _, false, rfl, .ty _, .base (.int _), kit_ty (by decide +kernel), q⟩
theorem Same.none {H H' : Hp} (e : Same H H') {p : Addr} (h : H' p = Option.none) : H p = Option.none := Same.free e h
theorem same_new {H : Hp} {p : Addr} {o : HO} (h : H p = Option.none) : Same H (upd H p o) := fun b x e => by
  rw [upd_ne (ne_of_none e h)]
  exact e
theorem or_test {t u : TT} {σ : St} {H : Hp} {a b : Bool} {Q : Bool → Hp → Prop} (h1 : ∀ Q' : Bool → Hp → Prop, Q' a H → t σ H Q') (h2 : a = false → ∀ Q' : Bool → Hp → Prop, Q' b H → u σ H Q') (q : Q (a || b) H) : tOr t u σ H Q := by
  refine h1 _ ?_
  cases a with
  | true => exact iteT q
  | false => exact iteF (h2 rfl _ q)
theorem and_test {t u : TT} {σ : St} {H : Hp} {a b : Bool} {Q : Bool → Hp → Prop} (h1 : ∀ Q' : Bool → Hp → Prop, Q' a H → t σ H Q') (h2 : a = true → ∀ Q' : Bool → Hp → Prop, Q' b H → u σ H Q') (q : Q (a && b) H) : tAnd t u σ H Q := by
  refine h1 _ ?_
  cases a with
  | true => exact iteT (h2 rfl _ q)
  | false => exact iteF q
theorem if_or {t u : TT} {a b : Bool} {A B : TS} {D : Ends} {σ : St} {H : Hp} (h1 : ∀ Q' : Bool → Hp → Prop, Q' a H → t σ H Q') (h2 : a = false → ∀ Q' : Bool → Hp → Prop, Q' b H → u σ H Q') (q : if (a || b) = true then A D σ H else B D σ H) : tIfS (tOr t u) A B D σ H := or_test h1 h2 q
theorem if_and {t u : TT} {a b : Bool} {A B : TS} {D : Ends} {σ : St} {H : Hp} (h1 : ∀ Q' : Bool → Hp → Prop, Q' a H → t σ H Q') (h2 : a = true → ∀ Q' : Bool → Hp → Prop, Q' b H → u σ H Q') (q : if (a && b) = true then A D σ H else B D σ H) : tIfS (tAnd t u) A B D σ H := and_test h1 h2 q
theorem Same.off {H H1 : Hp} {D : Addr} {x : HO} (k : Same H H1) (n : H D = Option.none) : Same H (upd H1 D x) := fun b y e => by
  rw [upd_ne (ne_of_none e n)]
  exact k b y e
theorem Same.seqT {K : PySem.W.Frag} {H H' : Hp} {a : Addr} {xs : List V} (e : Same H H') (h : SqT K H a xs) : SqT K H' a xs := by
  rcases h with h | h
  · rcases h with h | ⟨o, h⟩
    · exact .inl (.inl (e _ _ h))
    · exact .inl (.inr ⟨o, e _ _ h⟩)
  · exact .inr h
/-- a def that may raise, called where it does not -/
theorem pass_no {X : Cx} : Passes (L2.CX X.prog X.w) X (fun _ _ _ => False) := fun _ _ _ _ _ _ _ c => by
  obtain ⟨_, _, _, _, _, _, _, _, _, _, _, _, z⟩ := c
  exact z.elim
def rListOf (K : PySem.W.Frag) : List V → Hp → VK → Prop := fun xs H Q => ∃ p ys, xs = [V.ref p] ∧ (SqL K H p ys ∨ SqT K H p ys) ∧ ∀ l, H l = Option.none → Q (.ref l) (upd H l (.lst ys))
theorem if_t {b : Bool} {A B : Prop} (h : b = true) (q : A) : if b = true then A else B := by
  rw [if_pos h]
  exact q
theorem if_f {b : Bool} {A B : Prop} (h : b = false) (q : B) : if b = true then A else B := by
  rw [if_neg (by rw [h]; exact Bool.noConfusion)]
  exact q
/-- a tuple of the written part, as it stands there -/
theorem sqT_lit {K : PySem.W.Frag} {p : Addr} {dd : Option Addr} {us : Array Value} {n : Nat} {sl : Array (Option Value)} {xs : List V} {H : Hp} (w : K.lookup p = some ⟨.type "tuple", dd, .seq us n, sl⟩) (y : Vals xs us.toList) (hl : xs.length ≤ sizeLine := by decide) : SqT K H p xs :=
  .inr ⟨_, us, n, w, rfl, rfl, Nat.le_trans (Nat.le_of_eq (by rw [← Array.length_toList]; exact (Paired.length y).symm)) hl, y⟩
end L2

set_option Elab.async false
set_option linter.all false
set_option maxRecDepth 100000
namespace Rd
open PySem PySem.Spec PyProof.Rows L2
variable {K : PySem.W.Frag} {σ : L2.St} {H : Hp} {D : Ends} {Q : VK} {ta tb te tc : TE} {t u c : TT} {ts tu : TS} {g : TG} {x y v : V} {vs : List V} {tr : TA} {a b : Option V} {r : L2.St}
theorem seq (h : ts { D with nx := tu D } σ H) : tSeq ts tu D σ H := h
theorem next (h : D.nx σ H) : tNext D σ H := h
theorem brk (h : D.bk σ H) : tBreak D σ H := h
theorem cont (h : D.ct σ H) : tCont D σ H := h
theorem asg (h : te σ H fun x H1 => g x σ H1 D.nx) : tAsg te g D σ H := h
theorem ret (h : te σ H D.rt) : tRet te D σ H := h
theorem retN (h : D.rt .non H) : tRetN D σ H := h
theorem drop (h : te σ H fun _ H1 => D.nx σ H1) : tDrop te D σ H := h
theorem ifs (h : c σ H fun b H1 => if b = true then ts D σ H1 else tu D σ H1) : tIfS c ts tu D σ H := h
theorem ife (h : t σ H fun b H1 => if b = true then ta σ H1 Q else tb σ H1 Q) : tIf t ta tb σ H Q := h
theorem test {Q : Bool → Hp → Prop} (h : te σ H fun x H1 => ∃ k, x = .bl k ∧ Q k H1) : tTest te σ H Q := h
theorem tb_ {Q : Bool → Hp → Prop} (h : te σ H fun x H1 => ∃ k, x = .bl k ∧ Q k H1) : tB te σ H Q := h
theorem bl {b : Bool} {Q : Bool → Hp → Prop} (h : Q b H) : ∃ k, V.bl b = .bl k ∧ Q k H := ⟨b, rfl, h⟩
theorem bl2 {b : Bool} {P : Bool → Prop} (h : P b) : ∃ k, V.bl b = .bl k ∧ P k := ⟨b, rfl, h⟩
theorem and_ {Q : Bool → Hp → Prop} (h : t σ H fun c H1 => if c = true then u σ H1 Q else Q false H1) : tAnd t u σ H Q := h
theorem or_ {Q : Bool → Hp → Prop} (h : t σ H fun c H1 => if c = true then Q true H1 else u σ H1 Q) : tOr t u σ H Q := h
theorem not_ {Q : Bool → Hp → Prop} (h : t σ H fun c H1 => Q (!c) H1) : tNot t σ H Q := h
theorem andV (h : ta σ H fun x H1 => ∃ c, x = .bl c ∧ if c = true then tb σ H1 Q else Q (.bl false) H1) : tAndV ta tb σ H Q := h
theorem orV (h : ta σ H fun x H1 => ∃ c, x = .bl c ∧ if c = true then Q (.bl true) H1 else tb σ H1 Q) : tOrV ta tb σ H Q := h
theorem notV (h : ta σ H fun x H1 => ∃ c, x = .bl c ∧ Q (.bl (!c)) H1) : tNotV ta σ H Q := h
theorem op {r : R2} (h : ta σ H fun x H1 => tb σ H1 fun y H2 => r x y H2 Q) : tOp r ta tb σ H Q := h
theorem un {r : V → Hp → VK → Prop} (h : ta σ H fun x H1 => r x H1 Q) : tUn r ta σ H Q := h
theorem I0 {f : Int → Int → V} {i j : Int} (h : Q (f i j) H) : rI0 f (.int i) (.int j) H Q := ⟨i, j, rfl, rfl, h⟩
theorem I {C : Int → Int → Prop} {f : Int → Int → V} {i j : Int} (c : C i j) (h : Q (f i j) H) : rI C f (.int i) (.int j) H Q := ⟨i, j, rfl, rfl, c, h⟩
theorem U {f : Int → V} {i : Int} (h : Q (f i) H) : rU f (.int i) H Q := ⟨i, rfl, h⟩
theorem ip {f : Int → Int → Int} {i j : Int} (h : Q (.int (f i j)) H) : ipI f (.int i) (.int j) H Q := ⟨i, j, rfl, rfl, h⟩
theorem eq (s : scal x y = true) (h : Q (.bl (decide (x = y))) H) : rEq x y H Q := ⟨s, h⟩
theorem ne (s : scal x y = true) (h : Q (.bl (!decide (x = y))) H) : rNe x y H Q := ⟨s, h⟩
theorem c_ (h : Q v H) : tC v σ H Q := h
theorem nil {Q : List V → Hp → Prop} (h : Q [] H) : tNil σ H Q := h
theorem cons {Q : List V → Hp → Prop} (h : ta σ H fun x H1 => tr σ H1 fun xs H2 => Q (x :: xs) H2) : tCons ta tr σ H Q := h
theorem tup (h : tr σ H fun xs H1 => xs.length ≤ sizeLine ∧ ∀ p, H1 p = none → Q (.ref p) (upd H1 p (.tup xs))) : tTup tr σ H Q := h
theorem lst (h : tr σ H fun xs H1 => xs.length ≤ sizeLine ∧ ∀ p, H1 p = none → Q (.ref p) (upd H1 p (.lst xs))) : tLst tr σ H Q := h
theorem newT {xs : List V} (s : xs.length ≤ sizeLine) (h : ∀ p, H p = none → Q (.ref p) (upd H p (.tup xs))) : xs.length ≤ sizeLine ∧ ∀ p, H p = none → Q (.ref p) (upd H p (.tup xs)) := ⟨s, h⟩
theorem newL {xs : List V} (s : xs.length ≤ sizeLine) (h : ∀ p, H p = none → Q (.ref p) (upd H p (.lst xs))) : xs.length ≤ sizeLine ∧ ∀ p, H p = none → Q (.ref p) (upd H p (.lst xs)) := ⟨s, h⟩
theorem szA {xs : List V} {A : Prop} (s : xs.length ≤ sizeLine) (h : A) : xs.length ≤ sizeLine ∧ A := ⟨s, h⟩
theorem call {sp : Sp} {dvs : List V} {E : XK} (h : tr σ H fun vs H1 => sp (vs ++ dvs) H1 Q E) : tCall sp dvs E tr σ H Q := h
theorem cb {f : List V → Hp → VK → Prop} (h : tr σ H fun vs H1 => f vs H1 Q) : tCB f tr σ H Q := h
theorem bm {T : String} {f : V → List V → Hp → VK → Prop} (h : te σ H fun x H1 => tyV K T x H1 ∧ tr σ H1 fun xs H2 => f x xs H2 Q) : tBM K T f te tr σ H Q := h
theorem bm0 {T : String} {f : V → List V → Hp → VK → Prop} (h : te σ H fun x H1 => tyV K T x H1 ∧ f x [] H1 Q) : tBM0 K T f te σ H Q := h
theorem tyL {p : Addr} {xs : List V} {A : Prop} (s : H p = some (.lst xs)) (h : A) : tyV K "list" (.ref p) H ∧ A := ⟨.inl ⟨rfl, _, SqL.of s⟩, h⟩
theorem tyLq {p : Addr} {xs : List V} {A : Prop} (s : SqL K H p xs) (h : A) : tyV K "list" (.ref p) H ∧ A := ⟨.inl ⟨rfl, _, s⟩, h⟩
theorem tyS {z : Str} {A : Prop} (h : A) : tyV K "str" (.str z) H ∧ A := ⟨rfl, h⟩
theorem app {l : Addr} {xs : List V} (h : H l = some (.lst xs)) (s : xs.length < sizeLine) (q : Q .non (upd H l (.lst (xs ++ [y])))) : rAppend (.ref l) [y] H Q := ⟨l, xs, y, rfl, rfl, h, s, q⟩
theorem sl {f : V → Option Int → Option Int → Hp → VK → Prop} {tl th : TO} (h : te σ H fun x H1 => tl σ H1 fun l H2 => th σ H2 fun u H3 => f x l u H3 Q) : L2.tSl f te tl th σ H Q := h
theorem nopart {Q : Option Int → Hp → Prop} (h : Q none H) : tNoPart σ H Q := h
theorem part {Q : Option Int → Hp → Prop} (h : te σ H fun x H1 => ∃ i, x = .int i ∧ Q (some i) H1) : tPart te σ H Q := h
theorem int1 {i : Int} {P : Int → Prop} (h : P i) : ∃ j, V.int i = .int j ∧ P j := ⟨i, rfl, h⟩
theorem ints1 {i : Int} {P : Int → Prop} (h : P i) : ∃ j, [V.int i] = [.int j] ∧ P j := ⟨i, rfl, h⟩
theorem ints2 {i j : Int} {P : Int → Int → Prop} (h : P i j) : ∃ a b, [V.int i, V.int j] = [.int a, .int b] ∧ P a b := ⟨i, j, rfl, h⟩
theorem ixLq {p : Addr} {xs : List V} {i : Int} (h : SqL K H p xs) (e : atI xs i = some v) (q : Q v H) : rIxL K (.ref p) (.int i) H Q := ⟨p, xs, i, v, rfl, rfl, h, e, q⟩
theorem ixL {p : Addr} {xs : List V} {i : Int} (h : H p = some (.lst xs)) (e : atI xs i = some v) (q : Q v H) : rIxL K (.ref p) (.int i) H Q := ⟨p, xs, i, v, rfl, rfl, SqL.of h, e, q⟩
theorem ixT {p : Addr} {xs : List V} {i : Int} (h : H p = some (.tup xs)) (e : atI xs i = some v) (q : Q v H) : rIxT K (.ref p) (.int i) H Q := ⟨p, xs, i, v, rfl, rfl, SqT.of h, e, q⟩
theorem ixTq {p : Addr} {xs : List V} {i : Int} (h : SqT K H p xs) (e : atI xs i = some v) (q : Q v H) : rIxT K (.ref p) (.int i) H Q := ⟨p, xs, i, v, rfl, rfl, h, e, q⟩
theorem gtup {p : Addr} {xs : List V} {n : Nat} {f : TGs} {Q : L2.St → Hp → Prop} (h : H p = some (.tup xs)) (l : xs.length = n) (q : f xs σ H Q) : gTup K n f (.ref p) σ H Q := ⟨p, xs, rfl, SqT.of h, l, q⟩
theorem gtupq {p : Addr} {xs : List V} {n : Nat} {f : TGs} {Q : L2.St → Hp → Prop} (h : SqT K H p xs) (l : xs.length = n) (q : f xs σ H Q) : gTup K n f (.ref p) σ H Q := ⟨p, xs, rfl, h, l, q⟩
theorem yes {Q : Bool → Hp → Prop} (h : Q true H) : tYes σ H Q := h
theorem gcons {f : TGs} {Q : L2.St → Hp → Prop} (q : g v σ H fun σ' H' => f vs σ' H' Q) : gCons g f (v :: vs) σ H Q := ⟨v, vs, rfl, q⟩
theorem gnil {Q : L2.St → Hp → Prop} (q : Q σ H) : gNil [] σ H Q := ⟨rfl, q⟩
theorem sub {to ti : TE} {f : TSet} {Q : L2.St → Hp → Prop} (h : to σ H fun o H1 => ti σ H1 fun i H2 => f o i v H2 fun H3 => Q σ H3) : gSub to ti f v σ H Q := h
theorem setL {l : Addr} {xs : List V} {j : Nat} {i : Int} {Q : Hp → Prop} (h : H l = some (.lst xs)) (e : ixN xs.length i = some j) (q : Q (upd H l (.lst (xs.set j v)))) : rSetL (.ref l) (.int i) v H Q := ⟨l, xs, i, j, rfl, rfl, h, e, q⟩
theorem isN (h : ta σ H fun x H1 => Q (.bl (decide (x = .non))) H1) : tIsN ta σ H Q := h
theorem rf {α : Type} {a : α} {A : Prop} (h : A) : a = a ∧ A := ⟨rfl, h⟩
theorem sz {n : Nat} (h : n ≤ 100000) : n ≤ sizeLine := Nat.le_trans h (by decide)
theorem szl {n : Nat} (h : n < 100000) : n < sizeLine := Nat.lt_of_lt_of_le h (by decide)
theorem chain {r r' : R2} (h : ta σ H fun x H1 => tb σ H1 fun y H2 => r x y H2 fun z H3 => ∃ k, z = .bl k ∧ if k = true then tc σ H3 fun w H4 => r' y w H4 Q else Q (.bl false) H3) : tChain r r' ta tb tc σ H Q := h

theorem v0 (h : Q v H) : tVar 0 (some v :: r) H Q := ⟨v, rfl, h⟩
theorem n0 {Q : L2.St → Hp → Prop} (h : Q (some v :: r) H) : gName 0 v (a :: r) H Q := h
theorem g0 {ti : TIp} (h : te (some x :: r) H fun y H1 => ti x y H1 fun z H2 => D.nx (some z :: r) H2) : tAug 0 te ti D (some x :: r) H := ⟨x, rfl, h⟩
theorem v1 {a0 : Option V} (h : Q v H) : tVar 1 (a0 :: some v :: r) H Q := ⟨v, rfl, h⟩
theorem n1 {a0 : Option V} {Q : L2.St → Hp → Prop} (h : Q (a0 :: some v :: r) H) : gName 1 v (a0 :: a :: r) H Q := h
theorem g1 {a0 : Option V} {ti : TIp} (h : te (a0 :: some x :: r) H fun y H1 => ti x y H1 fun z H2 => D.nx (a0 :: some z :: r) H2) : tAug 1 te ti D (a0 :: some x :: r) H := ⟨x, rfl, h⟩
theorem v2 {a0 a1 : Option V} (h : Q v H) : tVar 2 (a0 :: a1 :: some v :: r) H Q := ⟨v, rfl, h⟩
theorem n2 {a0 a1 : Option V} {Q : L2.St → Hp → Prop} (h : Q (a0 :: a1 :: some v :: r) H) : gName 2 v (a0 :: a1 :: a :: r) H Q := h
theorem g2 {a0 a1 : Option V} {ti : TIp} (h : te (a0 :: a1 :: some x :: r) H fun y H1 => ti x y H1 fun z H2 => D.nx (a0 :: a1 :: some z :: r) H2) : tAug 2 te ti D (a0 :: a1 :: some x :: r) H := ⟨x, rfl, h⟩
theorem v3 {a0 a1 a2 : Option V} (h : Q v H) : tVar 3 (a0 :: a1 :: a2 :: some v :: r) H Q := ⟨v, rfl, h⟩
theorem n3 {a0 a1 a2 : Option V} {Q : L2.St → Hp → Prop} (h : Q (a0 :: a1 :: a2 :: some v :: r) H) : gName 3 v (a0 :: a1 :: a2 :: a :: r) H Q := h
theorem g3 {a0 a1 a2 : Option V} {ti : TIp} (h : te (a0 :: a1 :: a2 :: some x :: r) H fun y H1 => ti x y H1 fun z H2 => D.nx (a0 :: a1 :: a2 :: some z :: r) H2) : tAug 3 te ti D (a0 :: a1 :: a2 :: some x :: r) H := ⟨x, rfl, h⟩
theorem v4 {a0 a1 a2 a3 : Option V} (h : Q v H) : tVar 4 (a0 :: a1 :: a2 :: a3 :: some v :: r) H Q := ⟨v, rfl, h⟩
theorem n4 {a0 a1 a2 a3 : Option V} {Q : L2.St → Hp → Prop} (h : Q (a0 :: a1 :: a2 :: a3 :: some v :: r) H) : gName 4 v (a0 :: a1 :: a2 :: a3 :: a :: r) H Q := h
theorem g4 {a0 a1 a2 a3 : Option V} {ti : TIp} (h : te (a0 :: a1 :: a2 :: a3 :: some x :: r) H fun y H1 => ti x y H1 fun z H2 => D.nx (a0 :: a1 :: a2 :: a3 :: some z :: r) H2) : tAug 4 te ti D (a0 :: a1 :: a2 :: a3 :: some x :: r) H := ⟨x, rfl, h⟩
theorem v5 {a0 a1 a2 a3 a4 : Option V} (h : Q v H) : tVar 5 (a0 :: a1 :: a2 :: a3 :: a4 :: some v :: r) H Q := ⟨v, rfl, h⟩
theorem n5 {a0 a1 a2 a3 a4 : Option V} {Q : L2.St → Hp → Prop} (h : Q (a0 :: a1 :: a2 :: a3 :: a4 :: some v :: r) H) : gName 5 v (a0 :: a1 :: a2 :: a3 :: a4 :: a :: r) H Q := h
theorem g5 {a0 a1 a2 a3 a4 : Option V} {ti : TIp} (h : te (a0 :: a1 :: a2 :: a3 :: a4 :: some x :: r) H fun y H1 => ti x y H1 fun z H2 => D.nx (a0 :: a1 :: a2 :: a3 :: a4 :: some z :: r) H2) : tAug 5 te ti D (a0 :: a1 :: a2 :: a3 :: a4 :: some x :: r) H := ⟨x, rfl, h⟩
theorem v6 {a0 a1 a2 a3 a4 a5 : Option V} (h : Q v H) : tVar 6 (a0 :: a1 :: a2 :: a3 :: a4 :: a5 :: some v :: r) H Q := ⟨v, rfl, h⟩
theorem n6 {a0 a1 a2 a3 a4 a5 : Option V} {Q : L2.St → Hp → Prop} (h : Q (a0 :: a1 :: a2 :: a3 :: a4 :: a5 :: some v :: r) H) : gName 6 v (a0 :: a1 :: a2 :: a3 :: a4 :: a5 :: a :: r) H Q := h
theorem g6 {a0 a1 a2 a3 a4 a5 : Option V} {ti : TIp} (h : te (a0 :: a1 :: a2 :: a3 :: a4 :: a5 :: some x :: r) H fun y H1 => ti x y H1 fun z H2 => D.nx (a0 :: a1 :: a2 :: a3 :: a4 :: a5 :: some z :: r) H2) : tAug 6 te ti D (a0 :: a1 :: a2 :: a3 :: a4 :: a5 :: some x :: r) H := ⟨x, rfl, h⟩
theorem v7 {a0 a1 a2 a3 a4 a5 a6 : Option V} (h : Q v H) : tVar 7 (a0 :: a1 :: a2 :: a3 :: a4 :: a5 :: a6 :: some v :: r) H Q := ⟨v, rfl, h⟩
theorem n7 {a0 a1 a2 a3 a4 a5 a6 : Option V} {Q : L2.St → Hp → Prop} (h : Q (a0 :: a1 :: a2 :: a3 :: a4 :: a5 :: a6 :: some v :: r) H) : gName 7 v (a0 :: a1 :: a2 :: a3 :: a4 :: a5 :: a6 :: a :: r) H Q := h
theorem g7 {a0 a1 a2 a3 a4 a5 a6 : Option V} {ti : TIp} (h : te (a0 :: a1 :: a2 :: a3 :: a4 :: a5 :: a6 :: some x :: r) H fun y H1 => ti x y H1 fun z H2 => D.nx (a0 :: a1 :: a2 :: a3 :: a4 :: a5 :: a6 :: some z :: r) H2) : tAug 7 te ti D (a0 :: a1 :: a2 :: a3 :: a4 :: a5 :: a6 :: some x :: r) H := ⟨x, rfl, h⟩
theorem v8 {a0 a1 a2 a3 a4 a5 a6 a7 : Option V} (h : Q v H) : tVar 8 (a0 :: a1 :: a2 :: a3 :: a4 :: a5 :: a6 :: a7 :: some v :: r) H Q := ⟨v, rfl, h⟩
theorem n8 {a0 a1 a2 a3 a4 a5 a6 a7 : Option V} {Q : L2.St → Hp → Prop} (h : Q (a0 :: a1 :: a2 :: a3 :: a4 :: a5 :: a6 :: a7 :: some v :: r) H) : gName 8 v (a0 :: a1 :: a2 :: a3 :: a4 :: a5 :: a6 :: a7 :: a :: r) H Q := h
theorem g8 {a0 a1 a2 a3 a4 a5 a6 a7 : Option V} {ti : TIp} (h : te (a0 :: a1 :: a2 :: a3 :: a4 :: a5 :: a6 :: a7 :: some x :: r) H fun y H1 => ti x y H1 fun z H2 => D.nx (a0 :: a1 :: a2 :: a3 :: a4 :: a5 :: a6 :: a7 :: some z :: r) H2) : tAug 8 te ti D (a0 :: a1 :: a2 :: a3 :: a4 :: a5 :: a6 :: a7 :: some x :: r) H := ⟨x, rfl, h⟩
theorem v9 {a0 a1 a2 a3 a4 a5 a6 a7 a8 : Option V} (h : Q v H) : tVar 9 (a0 :: a1 :: a2 :: a3 :: a4 :: a5 :: a6 :: a7 :: a8 :: some v :: r) H Q := ⟨v, rfl, h⟩
theorem n9 {a0 a1 a2 a3 a4 a5 a6 a7 a8 : Option V} {Q : L2.St → Hp → Prop} (h : Q (a0 :: a1 :: a2 :: a3 :: a4 :: a5 :: a6 :: a7 :: a8 :: some v :: r) H) : gName 9 v (a0 :: a1 :: a2 :: a3 :: a4 :: a5 :: a6 :: a7 :: a8 :: a :: r) H Q := h
theorem g9 {a0 a1 a2 a3 a4 a5 a6 a7 a8 : Option V} {ti : TIp} (h : te (a0 :: a1 :: a2 :: a3 :: a4 :: a5 :: a6 :: a7 :: a8 :: some x :: r) H fun y H1 => ti x y H1 fun z H2 => D.nx (a0 :: a1 :: a2 :: a3 :: a4 :: a5 :: a6 :: a7 :: a8 :: some z :: r) H2) : tAug 9 te ti D (a0 :: a1 :: a2 :: a3 :: a4 :: a5 :: a6 :: a7 :: a8 :: some x :: r) H := ⟨x, rfl, h⟩
theorem v10 {a0 a1 a2 a3 a4 a5 a6 a7 a8 a9 : Option V} (h : Q v H) : tVar 10 (a0 :: a1 :: a2 :: a3 :: a4 :: a5 :: a6 :: a7 :: a8 :: a9 :: some v :: r) H Q := ⟨v, rfl, h⟩
theorem n10 {a0 a1 a2 a3 a4 a5 a6 a7 a8 a9 : Option V} {Q : L2.St → Hp → Prop} (h : Q (a0 :: a1 :: a2 :: a3 :: a4 :: a5 :: a6 :: a7 :: a8 :: a9 :: some v :: r) H) : gName 10 v (a0 :: a1 :: a2 :: a3 :: a4 :: a5 :: a6 :: a7 :: a8 :: a9 :: a :: r) H Q := h
theorem g10 {a0 a1 a2 a3 a4 a5 a6 a7 a8 a9 : Option V} {ti : TIp} (h : te (a0 :: a1 :: a2 :: a3 :: a4 :: a5 :: a6 :: a7 :: a8 :: a9 :: some x :: r) H fun y H1 => ti x y H1 fun z H2 => D.nx (a0 :: a1 :: a2 :: a3 :: a4 :: a5 :: a6 :: a7 :: a8 :: a9 :: some z :: r) H2) : tAug 10 te ti D (a0 :: a1 :: a2 :: a3 :: a4 :: a5 :: a6 :: a7 :: a8 :: a9 :: some x :: r) H := ⟨x, rfl, h⟩
theorem v11 {a0 a1 a2 a3 a4 a5 a6 a7 a8 a9 a10 : Option V} (h : Q v H) : tVar 11 (a0 :: a1 :: a2 :: a3 :: a4 :: a5 :: a6 :: a7 :: a8 :: a9 :: a10 :: some v :: r) H Q := ⟨v, rfl, h⟩
theorem n11 {a0 a1 a2 a3 a4 a5 a6 a7 a8 a9 a10 : Option V} {Q : L2.St → Hp → Prop} (h : Q (a0 :: a1 :: a2 :: a3 :: a4 :: a5 :: a6 :: a7 :: a8 :: a9 :: a10 :: some v :: r) H) : gName 11 v (a0 :: a1 :: a2 :: a3 :: a4 :: a5 :: a6 :: a7 :: a8 :: a9 :: a10 :: a :: r) H Q := h
theorem g11 {a0 a1 a2 a3 a4 a5 a6 a7 a8 a9 a10 : Option V} {ti : TIp} (h : te (a0 :: a1 :: a2 :: a3 :: a4 :: a5 :: a6 :: a7 :: a8 :: a9 :: a10 :: some x :: r) H fun y H1 => ti x y H1 fun z H2 => D.nx (a0 :: a1 :: a2 :: a3 :: a4 :: a5 :: a6 :: a7 :: a8 :: a9 :: a10 :: some z :: r) H2) : tAug 11 te ti D (a0 :: a1 :: a2 :: a3 :: a4 :: a5 :: a6 :: a7 :: a8 :: a9 :: a10 :: some x :: r) H := ⟨x, rfl, h⟩
theorem v12 {a0 a1 a2 a3 a4 a5 a6 a7 a8 a9 a10 a11 : Option V} (h : Q v H) : tVar 12 (a0 :: a1 :: a2 :: a3 :: a4 :: a5 :: a6 :: a7 :: a8 :: a9 :: a10 :: a11 :: some v :: r) H Q := ⟨v, rfl, h⟩
theorem n12 {a0 a1 a2 a3 a4 a5 a6 a7 a8 a9 a10 a11 : Option V} {Q : L2.St → Hp → Prop} (h : Q (a0 :: a1 :: a2 :: a3 :: a4 :: a5 :: a6 :: a7 :: a8 :: a9 :: a10 :: a11 :: some v :: r) H) : gName 12 v (a0 :: a1 :: a2 :: a3 :: a4 :: a5 :: a6 :: a7 :: a8 :: a9 :: a10 :: a11 :: a :: r) H Q := h
theorem g12 {a0 a1 a2 a3 a4 a5 a6 a7 a8 a9 a10 a11 : Option V} {ti : TIp} (h : te (a0 :: a1 :: a2 :: a3 :: a4 :: a5 :: a6 :: a7 :: a8 :: a9 :: a10 :: a11 :: some x :: r) H fun y H1 => ti x y H1 fun z H2 => D.nx (a0 :: a1 :: a2 :: a3 :: a4 :: a5 :: a6 :: a7 :: a8 :: a9 :: a10 :: a11 :: some z :: r) H2) : tAug 12 te ti D (a0 :: a1 :: a2 :: a3 :: a4 :: a5 :: a6 :: a7 :: a8 :: a9 :: a10 :: a11 :: some x :: r) H := ⟨x, rfl, h⟩
theorem v13 {a0 a1 a2 a3 a4 a5 a6 a7 a8 a9 a10 a11 a12 : Option V} (h : Q v H) : tVar 13 (a0 :: a1 :: a2 :: a3 :: a4 :: a5 :: a6 :: a7 :: a8 :: a9 :: a10 :: a11 :: a12 :: some v :: r) H Q := ⟨v, rfl, h⟩
theorem n13 {a0 a1 a2 a3 a4 a5 a6 a7 a8 a9 a10 a11 a12 : Option V} {Q : L2.St → Hp → Prop} (h : Q (a0 :: a1 :: a2 :: a3 :: a4 :: a5 :: a6 :: a7 :: a8 :: a9 :: a10 :: a11 :: a12 :: some v :: r) H) : gName 13 v (a0 :: a1 :: a2 :: a3 :: a4 :: a5 :: a6 :: a7 :: a8 :: a9 :: a10 :: a11 :: a12 :: a :: r) H Q := h
theorem g13 {a0 a1 a2 a3 a4 a5 a6 a7 a8 a9 a10 a11 a12 : Option V} {ti : TIp} (h : te (a0 :: a1 :: a2 :: a3 :: a4 :: a5 :: a6 :: a7 :: a8 :: a9 :: a10 :: a11 :: a12 :: some x :: r) H fun y H1 => ti x y H1 fun z H2 => D.nx (a0 :: a1 :: a2 :: a3 :: a4 :: a5 :: a6 :: a7 :: a8 :: a9 :: a10 :: a11 :: a12 :: some z :: r) H2) : tAug 13 te ti D (a0 :: a1 :: a2 :: a3 :: a4 :: a5 :: a6 :: a7 :: a8 :: a9 :: a10 :: a11 :: a12 :: some x :: r) H := ⟨x, rfl, h⟩
theorem v14 {a0 a1 a2 a3 a4 a5 a6 a7 a8 a9 a10 a11 a12 a13 : Option V} (h : Q v H) : tVar 14 (a0 :: a1 :: a2 :: a3 :: a4 :: a5 :: a6 :: a7 :: a8 :: a9 :: a10 :: a11 :: a12 :: a13 :: some v :: r) H Q := ⟨v, rfl, h⟩
theorem n14 {a0 a1 a2 a3 a4 a5 a6 a7 a8 a9 a10 a11 a12 a13 : Option V} {Q : L2.St → Hp → Prop} (h : Q (a0 :: a1 :: a2 :: a3 :: a4 :: a5 :: a6 :: a7 :: a8 :: a9 :: a10 :: a11 :: a12 :: a13 :: some v :: r) H) : gName 14 v (a0 :: a1 :: a2 :: a3 :: a4 :: a5 :: a6 :: a7 :: a8 :: a9 :: a10 :: a11 :: a12 :: a13 :: a :: r) H Q := h
theorem g14 {a0 a1 a2 a3 a4 a5 a6 a7 a8 a9 a10 a11 a12 a13 : Option V} {ti : TIp} (h : te (a0 :: a1 :: a2 :: a3 :: a4 :: a5 :: a6 :: a7 :: a8 :: a9 :: a10 :: a11 :: a12 :: a13 :: some x :: r) H fun y H1 => ti x y H1 fun z H2 => D.nx (a0 :: a1 :: a2 :: a3 :: a4 :: a5 :: a6 :: a7 :: a8 :: a9 :: a10 :: a11 :: a12 :: a13 :: some z :: r) H2) : tAug 14 te ti D (a0 :: a1 :: a2 :: a3 :: a4 :: a5 :: a6 :: a7 :: a8 :: a9 :: a10 :: a11 :: a12 :: a13 :: some x :: r) H := ⟨x, rfl, h⟩
theorem v15 {a0 a1 a2 a3 a4 a5 a6 a7 a8 a9 a10 a11 a12 a13 a14 : Option V} (h : Q v H) : tVar 15 (a0 :: a1 :: a2 :: a3 :: a4 :: a5 :: a6 :: a7 :: a8 :: a9 :: a10 :: a11 :: a12 :: a13 :: a14 :: some v :: r) H Q := ⟨v, rfl, h⟩
theorem n15 {a0 a1 a2 a3 a4 a5 a6 a7 a8 a9 a10 a11 a12 a13 a14 : Option V} {Q : L2.St → Hp → Prop} (h : Q (a0 :: a1 :: a2 :: a3 :: a4 :: a5 :: a6 :: a7 :: a8 :: a9 :: a10 :: a11 :: a12 :: a13 :: a14 :: some v :: r) H) : gName 15 v (a0 :: a1 :: a2 :: a3 :: a4 :: a5 :: a6 :: a7 :: a8 :: a9 :: a10 :: a11 :: a12 :: a13 :: a14 :: a :: r) H Q := h
theorem g15 {a0 a1 a2 a3 a4 a5 a6 a7 a8 a9 a10 a11 a12 a13 a14 : Option V} {ti : TIp} (h : te (a0 :: a1 :: a2 :: a3 :: a4 :: a5 :: a6 :: a7 :: a8 :: a9 :: a10 :: a11 :: a12 :: a13 :: a14 :: some x :: r) H fun y H1 => ti x y H1 fun z H2 => D.nx (a0 :: a1 :: a2 :: a3 :: a4 :: a5 :: a6 :: a7 :: a8 :: a9 :: a10 :: a11 :: a12 :: a13 :: a14 :: some z :: r) H2) : tAug 15 te ti D (a0 :: a1 :: a2 :: a3 :: a4 :: a5 :: a6 :: a7 :: a8 :: a9 :: a10 :: a11 :: a12 :: a13 :: a14 :: some x :: r) H := ⟨x, rfl, h⟩
theorem room65 {k : Nat} {A : Around} (r : Room k A) : A.units + 65 < cLine := by
  have := r.un
  omega
/-! ### iterators -/
def lcRest (g : TG) (tt : TT) (te : TE) (vs : List Nat) (σ : L2.St) (Q : VK) (J : It) (H1 : Hp) : Prop := ∀ D, H1 D = none → ∃ W : Nat → Nat → Hp → Prop, (∃ m, W 0 m (upd H1 D (.lst []))) ∧ ∀ i m H, W i m H →
  (J.stop i H ∧ Q (.ref D) H) ∨ (J.go i H ∧ ∃ Nx : Hp → Prop, (∀ H', Nx H' → ∃ m', m' < m ∧ W (i + 1) m' H') ∧ ∀ x H', J.yld i H x H' → g x (wipe σ vs) H' fun σ2 H2 => wipe σ2 vs = wipe σ vs ∧ tt σ2 H2 fun b H3 =>
    if b = true then te σ2 H3 fun y H4 => ∃ acc, H4 D = some (.lst acc) ∧ acc.length < sizeLine ∧ Nx (upd H4 D (.lst (acc ++ [y]))) else Nx H3)
theorem lc {wi : TI} {tt : TT} {ws : List Nat} (h : wi σ H (lcRest g tt te ws σ Q)) : tLc wi g tt te ws σ H Q := h
def forRest (g : TG) (tb : TS) (D : Ends) (σ0 : L2.St) (J : It) (H1 : Hp) : Prop := ∃ W : Nat → Nat → L2.St → Hp → Prop, (∃ m, W 0 m σ0 H1) ∧ ∀ i m σ H, W i m σ H →
  (J.stop i H ∧ D.nx σ H) ∨ (J.go i H ∧ ∃ N : L2.St → Hp → Prop, (∀ σ' H', N σ' H' → ∃ m', m' < m ∧ W (i + 1) m' σ' H') ∧ ∀ x H', J.yld i H x H' → g x σ H' fun σ2 H2 => tb { D with nx := N, ct := N, bk := D.nx } σ2 H2)
theorem for_ {wi : TI} {tb : TS} (h : wi σ H (forRest g tb D σ)) : tFor wi g tb D σ H := h
variable {R : It → Hp → Prop}
theorem ilist (h : te σ H fun x H1 => ∃ a, x = .ref a ∧ (∃ xs, SqL K H1 a xs) ∧ R (Itl K a) H1) : iList K te σ H R := h
theorem itup (h : te σ H fun x H1 => ∃ a, x = .ref a ∧ (∃ xs, SqT K H1 a xs) ∧ R (Itt K a) H1) : iTup K te σ H R := h
theorem irng1 (h : tr σ H fun vs H1 => ∃ j : Int, vs = [.int j] ∧ -(2 ^ 62) ≤ j ∧ j < 2 ^ 62 ∧ R (Itr 0 j.toNat) H1) : iRng1 tr σ H R := h
theorem irng2 (h : tr σ H fun vs H1 => ∃ i j : Int, vs = [.int i, .int j] ∧ (-(2 ^ 62) ≤ i ∧ i < 2 ^ 62 ∧ -(2 ^ 62) ≤ j ∧ j < 2 ^ 62) ∧ R (Itr i (j - i).toNat) H1) : iRng2 tr σ H R := h
theorem ienum (h : tr σ H fun vs H1 => ∃ a xs, vs = [.ref a] ∧ SqL K H1 a xs ∧ R (Ite K a) H1) : iEnum K tr σ H R := h
theorem istr (h : te σ H fun v H1 => ∃ x, v = .str x ∧ R (Its x) H1) : iStr te σ H R := h
theorem refA {a : Addr} {P : Addr → Prop} (h : P a) : ∃ b, V.ref a = .ref b ∧ P b := ⟨a, rfl, h⟩
theorem strA {a : Str} {P : Str → Prop} (h : P a) : ∃ b, V.str a = .str b ∧ P b := ⟨a, rfl, h⟩
theorem sqA {l : Addr} {xs : List V} {A : Prop} (h : H l = some (.lst xs)) (q : A) : (∃ xs, SqL K H l xs) ∧ A := ⟨⟨_, SqL.of h⟩, q⟩
theorem sqAq {l : Addr} {xs : List V} {A : Prop} (h : SqL K H l xs) (q : A) : (∃ xs, SqL K H l xs) ∧ A := ⟨⟨_, h⟩, q⟩
theorem stA {l : Addr} {xs : List V} {A : Prop} (h : H l = some (.tup xs)) (q : A) : (∃ xs, SqT K H l xs) ∧ A := ⟨⟨_, SqT.of h⟩, q⟩
theorem stAq {l : Addr} {xs : List V} {A : Prop} (h : SqT K H l xs) (q : A) : (∃ xs, SqT K H l xs) ∧ A := ⟨⟨_, h⟩, q⟩
theorem enA {l : Addr} {xs : List V} {P : Addr → Prop} (h : H l = some (.lst xs)) (q : P l) : ∃ a ys, [V.ref l] = [.ref a] ∧ SqL K H a ys ∧ P a := ⟨l, xs, rfl, SqL.of h, q⟩
theorem enAq {l : Addr} {xs : List V} {P : Addr → Prop} (h : SqL K H l xs) (q : P l) : ∃ a ys, [V.ref l] = [.ref a] ∧ SqL K H a ys ∧ P a := ⟨l, xs, rfl, h, q⟩
theorem lenL {l : Addr} {xs : List V} {P : List V → Prop} (h : H l = some (.lst xs)) (q : P xs) : ∃ p ys, [V.ref l] = [.ref p] ∧ (SqL K H p ys ∨ SqT K H p ys) ∧ P ys := ⟨l, xs, rfl, .inl (SqL.of h), q⟩
theorem lenLq {l : Addr} {xs : List V} {P : List V → Prop} (h : SqL K H l xs) (q : P xs) : ∃ p ys, [V.ref l] = [.ref p] ∧ (SqL K H p ys ∨ SqT K H p ys) ∧ P ys := ⟨l, xs, rfl, .inl h, q⟩
theorem lenTq {l : Addr} {xs : List V} {P : List V → Prop} (h : SqT K H l xs) (q : P xs) : ∃ p ys, [V.ref l] = [.ref p] ∧ (SqL K H p ys ∨ SqT K H p ys) ∧ P ys := ⟨l, xs, rfl, .inr h, q⟩
theorem lenT {l : Addr} {xs : List V} {P : List V → Prop} (h : H l = some (.tup xs)) (q : P xs) : ∃ p ys, [V.ref l] = [.ref p] ∧ (SqL K H p ys ∨ SqT K H p ys) ∧ P ys := ⟨l, xs, rfl, .inr (SqT.of h), q⟩
/-! ### comprehensions: each element by a relation -/
def But (D : Addr) (H H' : Hp) : Prop := ∀ b o, b ≠ D → H b = some o → H' b = some o
theorem But.refl {D : Addr} : But D H H := fun _ _ _ h => h
theorem But.trans {D : Addr} {H H1 H2 : Hp} (a : But D H H1) (b : But D H1 H2) : But D H H2 := fun x o n h => b x o n (a x o n h)
theorem But.same {D : Addr} {H H1 : Hp} (a : Same H H1) : But D H H1 := fun x o _ h => a x o h
theorem But.at_ {D : Addr} {o : HO} : But D H (upd H D o) := fun x u n h => by rw [upd_ne n]; exact h
theorem But.to {D : Addr} {H H1 : Hp} (a : But D H H1) (n : H D = none) : Same H H1 := fun x o h => a x o (fun z => by rw [z, n] at h; cases h) h
theorem lc_rel {J : It} {n : Nat} {G : Hp → Prop} {Y : Nat → Hp → V → Hp → Prop} (w : Walk J n G Y) {g : TG} {te : TE} {vs : List Nat} {σ : L2.St} {H1 : Hp} {D : Addr} {Qd : Hp → Prop} (R : Nat → V → Hp → Prop)
    (nD : H1 D = none) (hn : n ≤ 100000) (mono : ∀ i v H H', R i v H → But D H H' → R i v H') (hG : ∀ H, But D H1 H → G H)
    (hs : ∀ i x H H' (Kt : VK), i < n → But D H1 H → (∃ xs, H D = some (.lst xs)) → Y i H x H' → (∀ y H4, R i y H4 → Same H H4 → Kt y H4) → g x (wipe σ vs) H' fun σ2 H2 => wipe σ2 vs = wipe σ vs ∧ te σ2 H2 Kt)
    (hd : ∀ H ys, ys.length = n → (∀ i v, ys[i]? = some v → R i v H) → Same H1 H → H D = some (.lst ys) → Qd H) :
    ∃ W : Nat → Nat → Hp → Prop, (∃ m, W 0 m (upd H1 D (.lst []))) ∧ ∀ i m H, W i m H →
      (J.stop i H ∧ Qd H) ∨ (J.go i H ∧ ∃ Nx : Hp → Prop, (∀ H', Nx H' → ∃ m', m' < m ∧ W (i + 1) m' H') ∧ ∀ x H', J.yld i H x H' → g x (wipe σ vs) H' fun σ2 H2 => wipe σ2 vs = wipe σ vs ∧ tYes σ2 H2 fun b H3 =>
        if b = true then te σ2 H3 fun y H4 => ∃ acc, H4 D = some (.lst acc) ∧ acc.length < sizeLine ∧ Nx (upd H4 D (.lst (acc ++ [y]))) else Nx H3) := by
  refine lc_it w (fun i H => ∃ ys, ys.length = i ∧ (∀ i v, ys[i]? = some v → R i v H) ∧ But D H1 H ∧ H D = some (.lst ys)) ⟨[], rfl, fun i v h => by simp at h, But.at_, upd_same⟩ (fun i H _ h => ?_) (fun i x H H' hi h y => ?_) (fun H h => ?_)
  · obtain ⟨_, _, _, b, _⟩ := h
    exact hG H b
  · obtain ⟨ys, hl, hr, b, hD⟩ := h
    refine hs i x H H' _ hi b ⟨_, hD⟩ y fun v H4 r sm => ?_
    refine ⟨ys, sm _ _ hD, szl (by omega), ys ++ [v], by simp [hl], fun j u hj => ?_, (b.trans (But.same sm)).trans But.at_, upd_same⟩
    by_cases hj2 : j < ys.length
    · rw [List.getElem?_append_left hj2] at hj
      exact mono _ _ _ _ (hr j u hj) ((But.same sm).trans But.at_)
    · have e : j = ys.length := by
        have := (List.getElem?_eq_some_iff.mp hj).1
        simp at this; omega
      subst e
      rw [List.getElem?_append_right (Nat.le_refl _)] at hj
      simp at hj
      subst hj
      rw [hl]
      exact mono _ _ _ _ r But.at_
  · obtain ⟨ys, hl, hr, b, hD⟩ := h
    exact hd H ys hl hr (b.to nD) hD
/-! ### tests, ints in lists -/
theorem ifD {p : Prop} [Decidable p] {A B : Prop} (h1 : p → A) (h2 : ¬ p → B) : if decide p = true then A else B := by
  by_cases h : p
  · rw [decide_eq_true h, if_pos rfl]; exact h1 h
  · rw [decide_eq_false h, if_neg Bool.false_ne_true]; exact h2 h
theorem ifN {p : Prop} [Decidable p] {A B : Prop} (h1 : ¬ p → A) (h2 : p → B) : if (!decide p) = true then A else B := by
  by_cases h : p
  · rw [decide_eq_true h, if_neg (by decide)]; exact h2 h
  · rw [decide_eq_false h, if_pos (by decide)]; exact h1 h
theorem ifT {A B : Prop} (h : A) : if true = true then A else B := by rw [if_pos rfl]; exact h
theorem ifF {A B : Prop} (h : B) : if false = true then A else B := by rw [if_neg Bool.false_ne_true]; exact h
theorem ifB {b : Bool} {A B : Prop} (h1 : b = true → A) (h2 : b = false → B) : if b = true then A else B := by
  cases b with
  | true => exact ifT (h1 rfl)
  | false => exact ifF (h2 rfl)
theorem ifNB {b : Bool} {A B : Prop} (h1 : b = false → A) (h2 : b = true → B) : if (!b) = true then A else B := by
  cases b with
  | true => exact ifF (h2 rfl)
  | false => exact ifT (h1 rfl)
theorem flat_ints (ns : List Int) : (ns.map V.int).all flatV = true := by
  rw [List.all_eq_true]
  intro x hx
  obtain ⟨i, _, rfl⟩ := List.mem_map.mp hx
  rfl
theorem flat_strs (ns : List Str) : (ns.map V.str).all flatV = true := by
  rw [List.all_eq_true]
  intro x hx
  obtain ⟨i, _, rfl⟩ := List.mem_map.mp hx
  rfl
theorem eqV_ints (a b : Int) : eqV (.int a) (.int b) = decide (a = b) := by
  by_cases h : a = b <;> simp [eqV, h]
theorem inV_ints (x : Int) (r : List Int) : inV (.int x) (r.map V.int) = decide (x ∈ r) := by
  unfold inV
  rw [List.any_map]
  by_cases h : x ∈ r
  · rw [decide_eq_true h, List.any_eq_true]
    exact ⟨x, h, beq_self_eq_true x⟩
  · rw [decide_eq_false h, List.any_eq_false]
    intro y hy e
    have e2 : (y == x) = true := e
    exact h (by rw [← eq_of_beq e2]; exact hy)
theorem first_at (ns : List Int) (n : Int) (h : n ∈ ns) : ∃ j : Nat, ns[j]? = some n ∧ ∀ i, i < j → ns[i]? ≠ some n := by
  induction ns with
  | nil => simp at h
  | cons a r ih =>
    by_cases e : a = n
    · exact ⟨0, by simp [e], fun i hi => absurd hi (Nat.not_lt_zero _)⟩
    · obtain ⟨j, h1, h2⟩ := ih ((List.mem_cons.mp h).resolve_left fun z => e z.symm)
      refine ⟨j + 1, by simpa using h1, fun i hi => ?_⟩
      cases i with
      | zero => simp [e]
      | succ i => simpa using h2 i (by omega)
theorem inI {p : Addr} {ns : List Int} {n : Int} (h : H p = some (.lst (ns.map V.int))) (q : Q (.bl (decide (n ∈ ns))) H) : rIn K false (.int n) (.ref p) H Q :=
  ⟨p, _, rfl, .inl (SqL.of h), rfl, flat_ints _, by rw [inV_ints]; exact q⟩
theorem ninI {p : Addr} {ns : List Int} {n : Int} (h : H p = some (.lst (ns.map V.int))) (q : Q (.bl (!decide (n ∈ ns))) H) : rIn K true (.int n) (.ref p) H Q :=
  ⟨p, _, rfl, .inl (SqL.of h), rfl, flat_ints _, by rw [inV_ints]; exact q⟩
theorem idxI {a : Addr} {ns : List Int} {n : Int} {j : Nat} (h : H a = some (.lst (ns.map V.int))) (hj : ns[j]? = some n) (hf : ∀ i, i < j → ns[i]? ≠ some n) (q : Q (.int (j : Nat)) H) : rIndex K (.ref a) [.int n] H Q :=
  ⟨a, _, _, j, .int n, rfl, rfl, SqL.of h, rfl, flat_ints _, by rw [List.getElem?_map, hj]; rfl, by rw [eqV_ints, decide_eq_true rfl], fun m z' hm hz => by
    rw [List.getElem?_map] at hz
    cases e : ns[m]? with
    | none => rw [e] at hz; cases hz
    | some x =>
      rw [e] at hz; cases hz
      rw [eqV_ints]
      exact decide_eq_false fun e2 => hf m hm (by rw [e, e2]), q⟩
theorem vals_map {n : Nat} {ns : List V} (f : Nat → Int) (ln : ns.length = n) (hn : ∀ (i : Nat) v, ns[i]? = some v → v = .int (f i)) : ns = ((List.range n).map f).map V.int := by
  refine List.ext_getElem? fun i => ?_
  rw [List.map_map, List.getElem?_map]
  by_cases hi : i < n
  · obtain ⟨v, hv⟩ : ∃ v, ns[i]? = some v := ⟨_, List.getElem?_eq_getElem (by omega)⟩
    rw [hv, List.getElem?_range hi, hn i v hv]
    rfl
  · rw [List.getElem?_eq_none (by omega), List.getElem?_eq_none (by rw [List.length_range]; omega)]
    rfl
theorem at_int {ns : List Int} {i : Int} {j : Nat} {n : Int} (e : i = (j : Int)) (h : ns[j]? = some n) : atI (ns.map V.int) i = some (.int n) := by
  subst e
  exact atI_nat (by rw [List.getElem?_map, h]; rfl)
theorem at_val {xs : List V} {i : Int} {j : Nat} (e : i = (j : Int)) (h : xs[j]? = some v) : atI xs i = some v := by
  subst e
  exact atI_nat h
theorem zr {i : Nat} {H H' : Hp} (y : YFn (fun (i : Nat) => V.int ((0 : Int) + (i : Int))) i H x H') : x = .int (i : Int) ∧ H' = H := by
  obtain ⟨a, b⟩ := y
  exact ⟨by rw [b]; show V.int (0 + (i : Int)) = _; rw [Int.zero_add], a⟩
/-! ### new objects, by what they leave -/
def NewT (Q : VK) (xs : List V) (H : Hp) : Prop := xs.length ≤ sizeLine ∧ ∀ p, H p = none → Q (.ref p) (upd H p (.tup xs))
def NewL (Q : VK) (xs : List V) (H : Hp) : Prop := xs.length ≤ sizeLine ∧ ∀ p, H p = none → Q (.ref p) (upd H p (.lst xs))
theorem tupN (h : tr σ H (NewT Q)) : tTup tr σ H Q := h
theorem lstN (h : tr σ H (NewL Q)) : tLst tr σ H Q := h
theorem nwT {xs : List V} (s : xs.length ≤ sizeLine) (h : ∀ p H', H p = none → Same H H' → H' p = some (.tup xs) → Q (.ref p) H') : NewT Q xs H := ⟨s, fun p np => h p _ np (same_new np) upd_same⟩
theorem nwL {xs : List V} (s : xs.length ≤ sizeLine) (h : ∀ p H', H p = none → Same H H' → H' p = some (.lst xs) → Q (.ref p) H') : NewL Q xs H := ⟨s, fun p np => h p _ np (same_new np) upd_same⟩
def ListOf (K : PySem.W.Frag) (Q : VK) (vs : List V) (H : Hp) : Prop := ∃ p ys, vs = [.ref p] ∧ (SqL K H p ys ∨ SqT K H p ys) ∧ ∀ l, H l = none → Q (.ref l) (upd H l (.lst ys))
theorem cbListOf (h : tr σ H (ListOf K Q)) : tCB (fun xs H Q => ∃ p ys, xs = [.ref p] ∧ (SqL K H p ys ∨ SqT K H p ys) ∧ ∀ l, H l = none → Q (.ref l) (upd H l (.lst ys))) tr σ H Q := h
theorem listOfq {a : Addr} {ys : List V} (s : SqL K H a ys) (h : ∀ p H', H p = none → Same H H' → H' p = some (.lst ys) → Q (.ref p) H') : ListOf K Q [.ref a] H := ⟨a, ys, rfl, .inl s, fun p np => h p _ np (same_new np) upd_same⟩
theorem listOf {a : Addr} {ys : List V} (s : H a = some (.lst ys)) (h : ∀ p H', H p = none → Same H H' → H' p = some (.lst ys) → Q (.ref p) H') : ListOf K Q [.ref a] H := listOfq (SqL.of s) h
def SlL (K : PySem.W.Frag) (x : V) (lo hi : Option Int) (Q : VK) (H : Hp) : Prop := ∃ a xs, x = .ref a ∧ SqL K H a xs ∧ ∀ p, H p = none → Q (.ref p) (upd H p (.lst (cutV xs lo hi)))
theorem slN {tl th : TO} (h : te σ H fun x H1 => tl σ H1 fun l H2 => th σ H2 fun u H3 => SlL K x l u Q H3) : L2.tSl (rSlL K) te tl th σ H Q := h
theorem slq {a : Addr} {xs : List V} {lo hi : Option Int} (s : SqL K H a xs) (h : ∀ p H', H p = none → Same H H' → H' p = some (.lst (cutV xs lo hi)) → Q (.ref p) H') : SlL K (.ref a) lo hi Q H := ⟨a, xs, rfl, s, fun p np => h p _ np (same_new np) upd_same⟩
theorem slo {a : Addr} {xs : List V} {lo hi : Option Int} (s : H a = some (.lst xs)) (h : ∀ p H', H p = none → Same H H' → H' p = some (.lst (cutV xs lo hi)) → Q (.ref p) H') : SlL K (.ref a) lo hi Q H := slq (SqL.of s) h
def SrtI (K : PySem.W.Frag) (Q : VK) (vs : List V) (H : Hp) : Prop := rSortedI K vs H Q
theorem cbSrtI (h : tr σ H (SrtI K Q)) : tCB (rSortedI K) tr σ H Q := h
theorem srtI {a : Addr} {ns : List Int} (s : SqL K H a (ns.map V.int)) (h : ∀ (ns' : List Int) p H', ns'.Perm ns → ns'.Pairwise (· ≤ ·) → H p = none → Same H H' → H' p = some (.lst (ns'.map V.int)) → Q (.ref p) H') : SrtI K Q [.ref a] H :=
  ⟨a, ns, rfl, s, fun ns' p e1 e2 np => h ns' p _ e1 e2 np (same_new np) upd_same⟩
theorem srtIo {a : Addr} {ns : List Int} (s : H a = some (.lst (ns.map V.int))) (h : ∀ (ns' : List Int) p H', ns'.Perm ns → ns'.Pairwise (· ≤ ·) → H p = none → Same H H' → H' p = some (.lst (ns'.map V.int)) → Q (.ref p) H') : SrtI K Q [.ref a] H := srtI (SqL.of s) h
theorem eqD {d e : PyData} (h1 : Dp K H x d) (h2 : Dp K H y e) (s1 : SeqAt.shaped d = true) (s2 : SeqAt.shaped e = true) (q : Q (.bl (PyData.eqv d e)) H) : rEqD K x y H Q := ⟨d, e, h1, h2, s1, s2, q⟩
theorem neD {d e : PyData} (h1 : Dp K H x d) (h2 : Dp K H y e) (s1 : SeqAt.shaped d = true) (s2 : SeqAt.shaped e = true) (q : Q (.bl (!PyData.eqv d e)) H) : rNeD K x y H Q := ⟨d, e, h1, h2, s1, s2, q⟩
/-! ### isinstance -/
theorem isi {T U : String} {b : Bool} (t : TyX K H x (.type T)) (k : kitB T U = some b) (q : Q (.bl b) H) : rIsi K [x, .ty U] H Q := ⟨x, .ty U, _, _, b, rfl, .ty _, t, kit_ty k, q⟩
theorem isi_ii {n : Int} (q : Q (.bl true) H) : rIsi K [.int n, .ty "int"] H Q := isi (.base (.int _)) (by decide +kernel) q
theorem isi_ib {n : Int} (q : Q (.bl false) H) : rIsi K [.int n, .ty "bool"] H Q := isi (.base (.int _)) (by decide +kernel) q
theorem isi_is {n : Int} (q : Q (.bl false) H) : rIsi K [.int n, .ty "str"] H Q := isi (.base (.int _)) (by decide +kernel) q
theorem isi_il {n : Int} (q : Q (.bl false) H) : rIsi K [.int n, .ty "list"] H Q := isi (.base (.int _)) (by decide +kernel) q
theorem isi_it {n : Int} (q : Q (.bl false) H) : rIsi K [.int n, .ty "tuple"] H Q := isi (.base (.int _)) (by decide +kernel) q
theorem isi_id {n : Int} (q : Q (.bl false) H) : rIsi K [.int n, .ty "dict"] H Q := isi (.base (.int _)) (by decide +kernel) q
theorem isi_bi {n : Bool} (q : Q (.bl true) H) : rIsi K [.bl n, .ty "int"] H Q := isi (.base (.bl _)) (by decide +kernel) q
theorem isi_bb {n : Bool} (q : Q (.bl true) H) : rIsi K [.bl n, .ty "bool"] H Q := isi (.base (.bl _)) (by decide +kernel) q
theorem isi_bs {n : Bool} (q : Q (.bl false) H) : rIsi K [.bl n, .ty "str"] H Q := isi (.base (.bl _)) (by decide +kernel) q
theorem isi_bl {n : Bool} (q : Q (.bl false) H) : rIsi K [.bl n, .ty "list"] H Q := isi (.base (.bl _)) (by decide +kernel) q
theorem isi_bt {n : Bool} (q : Q (.bl false) H) : rIsi K [.bl n, .ty "tuple"] H Q := isi (.base (.bl _)) (by decide +kernel) q
theorem isi_bd {n : Bool} (q : Q (.bl false) H) : rIsi K [.bl n, .ty "dict"] H Q := isi (.base (.bl _)) (by decide +kernel) q
theorem isi_si {n : Str} (q : Q (.bl false) H) : rIsi K [.str n, .ty "int"] H Q := isi (.base (.str _)) (by decide +kernel) q
theorem isi_sb {n : Str} (q : Q (.bl false) H) : rIsi K [.str n, .ty "bool"] H Q := isi (.base (.str _)) (by decide +kernel) q
theorem isi_ss {n : Str} (q : Q (.bl true) H) : rIsi K [.str n, .ty "str"] H Q := isi (.base (.str _)) (by decide +kernel) q
theorem isi_sl {n : Str} (q : Q (.bl false) H) : rIsi K [.str n, .ty "list"] H Q := isi (.base (.str _)) (by decide +kernel) q
theorem isi_st {n : Str} (q : Q (.bl false) H) : rIsi K [.str n, .ty "tuple"] H Q := isi (.base (.str _)) (by decide +kernel) q
theorem isi_sd {n : Str} (q : Q (.bl false) H) : rIsi K [.str n, .ty "dict"] H Q := isi (.base (.str _)) (by decide +kernel) q
theorem isi_li {n : Addr} {xs : List V} (h : H n = some (.lst xs)) (q : Q (.bl false) H) : rIsi K [.ref n, .ty "int"] H Q := isi (.base (.lst h)) (by decide +kernel) q
theorem isi_lb {n : Addr} {xs : List V} (h : H n = some (.lst xs)) (q : Q (.bl false) H) : rIsi K [.ref n, .ty "bool"] H Q := isi (.base (.lst h)) (by decide +kernel) q
theorem isi_ls {n : Addr} {xs : List V} (h : H n = some (.lst xs)) (q : Q (.bl false) H) : rIsi K [.ref n, .ty "str"] H Q := isi (.base (.lst h)) (by decide +kernel) q
theorem isi_ll {n : Addr} {xs : List V} (h : H n = some (.lst xs)) (q : Q (.bl true) H) : rIsi K [.ref n, .ty "list"] H Q := isi (.base (.lst h)) (by decide +kernel) q
theorem isi_lt {n : Addr} {xs : List V} (h : H n = some (.lst xs)) (q : Q (.bl false) H) : rIsi K [.ref n, .ty "tuple"] H Q := isi (.base (.lst h)) (by decide +kernel) q
theorem isi_ld {n : Addr} {xs : List V} (h : H n = some (.lst xs)) (q : Q (.bl false) H) : rIsi K [.ref n, .ty "dict"] H Q := isi (.base (.lst h)) (by decide +kernel) q
theorem isi_ti {n : Addr} {xs : List V} (h : H n = some (.tup xs)) (q : Q (.bl false) H) : rIsi K [.ref n, .ty "int"] H Q := isi (.base (.tup h)) (by decide +kernel) q
theorem isi_tb {n : Addr} {xs : List V} (h : H n = some (.tup xs)) (q : Q (.bl false) H) : rIsi K [.ref n, .ty "bool"] H Q := isi (.base (.tup h)) (by decide +kernel) q
theorem isi_ts {n : Addr} {xs : List V} (h : H n = some (.tup xs)) (q : Q (.bl false) H) : rIsi K [.ref n, .ty "str"] H Q := isi (.base (.tup h)) (by decide +kernel) q
theorem isi_tl {n : Addr} {xs : List V} (h : H n = some (.tup xs)) (q : Q (.bl false) H) : rIsi K [.ref n, .ty "list"] H Q := isi (.base (.tup h)) (by decide +kernel) q
theorem isi_tt {n : Addr} {xs : List V} (h : H n = some (.tup xs)) (q : Q (.bl true) H) : rIsi K [.ref n, .ty "tuple"] H Q := isi (.base (.tup h)) (by decide +kernel) q
theorem isi_td {n : Addr} {xs : List V} (h : H n = some (.tup xs)) (q : Q (.bl false) H) : rIsi K [.ref n, .ty "dict"] H Q := isi (.base (.tup h)) (by decide +kernel) q
theorem isi_ni  (q : Q (.bl false) H) : rIsi K [.non, .ty "int"] H Q := isi (.base .non) (by decide +kernel) q
theorem isi_nb  (q : Q (.bl false) H) : rIsi K [.non, .ty "bool"] H Q := isi (.base .non) (by decide +kernel) q
theorem isi_ns  (q : Q (.bl false) H) : rIsi K [.non, .ty "str"] H Q := isi (.base .non) (by decide +kernel) q
theorem isi_nl  (q : Q (.bl false) H) : rIsi K [.non, .ty "list"] H Q := isi (.base .non) (by decide +kernel) q
theorem isi_nt  (q : Q (.bl false) H) : rIsi K [.non, .ty "tuple"] H Q := isi (.base .non) (by decide +kernel) q
theorem isi_nd  (q : Q (.bl false) H) : rIsi K [.non, .ty "dict"] H Q := isi (.base .non) (by decide +kernel) q
/-! ### slices of lists -/
theorem cut_to (xs : List V) (n : Nat) : cutV xs none (some (n : Int)) = xs.take n := by
  unfold cutV
  rw [HT.sIx_nat, HT.sIx_none, List.drop_zero, Nat.sub_zero]
  rcases Nat.le_total n xs.length with h | h
  · rw [Nat.min_eq_left h]
  · rw [Nat.min_eq_right h, List.take_of_length_le (Nat.le_refl _), List.take_of_length_le h]
theorem cut_from (xs : List V) (n : Nat) : cutV xs (some (n : Int)) none = xs.drop n := by
  unfold cutV
  rw [HT.sIx_nat, HT.sIx_none]
  rcases Nat.le_total n xs.length with h | h
  · rw [Nat.min_eq_left h, List.take_of_length_le (by rw [List.length_drop]; omega)]
  · rw [Nat.min_eq_right h, List.drop_of_length_le h, List.drop_of_length_le (Nat.le_refl _), List.take_nil]
theorem eqv_self (d : PyData) (h : d.canLay0 = true) : PyData.eqv d d = true := PySem.SeqAt.eqv_refl d h
/-! ### ints of a list, filtered -/
theorem lc_fl {a : Addr} {ns : List Int} {g : TG} {tt : TT} {te : TE} {vs : List Nat} {σ : L2.St} {H1 : Hp} {C : Addr} {Qd : Hp → Prop} (p : Int → Bool) (hS : SqL K H1 a (ns.map V.int)) (nD : H1 C = none) (hn : ns.length ≤ 90000)
    (hs : ∀ (i : Nat) H (n : Int) (Kt : VK) (Kn : Hp → Prop), ns[i]? = some n → But C H1 H → (p n = true → Kt (.int n) H) → (p n = false → Kn H) → g (.int n) (wipe σ vs) H fun σ2 H2 => wipe σ2 vs = wipe σ vs ∧ tt σ2 H2 fun b H3 => if b = true then te σ2 H3 Kt else Kn H3)
    (hd : ∀ H, Same H1 H → H C = some (.lst ((ns.filter p).map V.int)) → Qd H) :
    ∃ W : Nat → Nat → Hp → Prop, (∃ m, W 0 m (upd H1 C (.lst []))) ∧ ∀ i m H, W i m H →
      ((Itl K a).stop i H ∧ Qd H) ∨ ((Itl K a).go i H ∧ ∃ Nx : Hp → Prop, (∀ H', Nx H' → ∃ m', m' < m ∧ W (i + 1) m' H') ∧ ∀ x H', (Itl K a).yld i H x H' → g x (wipe σ vs) H' fun σ2 H2 => wipe σ2 vs = wipe σ vs ∧ tt σ2 H2 fun b H3 =>
        if b = true then te σ2 H3 fun y H4 => ∃ acc, H4 C = some (.lst acc) ∧ acc.length < sizeLine ∧ Nx (upd H4 C (.lst (acc ++ [y]))) else Nx H3) := by
  refine lc_it (walk_list (xs := ns.map V.int)) (fun i H => But C H1 H ∧ H C = some (.lst (((ns.take i).filter p).map V.int))) ⟨But.at_, by simp [upd_same]⟩ (fun i H _ h => (h.1.to nD).seq hS) (fun i x H H' hi ⟨b, hD⟩ y => ?_) (fun H ⟨b, hD⟩ => ?_)
  · obtain ⟨rfl, hx⟩ := y
    rw [List.getElem?_map] at hx
    obtain ⟨n, hn2, rfl⟩ : ∃ n, ns[i]? = some n ∧ V.int n = x := by
      cases e : ns[i]? with
      | none => rw [e] at hx; cases hx
      | some n => rw [e] at hx; exact ⟨n, rfl, Option.some.inj hx⟩
    have tk : (ns.take (i + 1)).filter p = (ns.take i).filter p ++ [n].filter p := by
      rw [List.take_add_one, hn2, List.filter_append]; rfl
    refine hs i _ n _ _ hn2 b (fun hp => ?_) (fun hp => ?_)
    · refine ⟨_, hD, szl ?_, b.trans But.at_, ?_⟩
      · rw [List.length_map]
        have := List.length_filter_le p (ns.take i)
        rw [List.length_take] at this
        omega
      · rw [upd_same, tk, List.filter_cons_of_pos hp]
        simp
    · refine ⟨b, ?_⟩
      rw [tk, List.filter_cons_of_neg (by simp [hp])]
      simpa using hD
  · rw [List.length_map, List.take_of_length_le (Nat.le_refl _)] at hD
    exact hd H (b.to nD) hD
theorem intI {i : Int} {A : Int → Prop} {B : Prop} (h : A i) : (∃ j, [V.int i] = [.int j] ∧ A j) ∨ B := .inl ⟨i, rfl, h⟩
theorem pos_ne {i : Int} (h : 0 < i) : i ≠ 0 := by omega
theorem ifnT {A B : Prop} (h : B) : if (!true) = true then A else B := by rw [if_neg (by decide)]; exact h
theorem ifnF {A B : Prop} (h : A) : if (!false) = true then A else B := by rw [if_pos (by decide)]; exact h
theorem cbListOfR {tr : TA} (h : tr σ H (ListOf K Q)) : tCB (rListOf K) tr σ H Q := h
def CatL (Q : VK) (x y : V) (H : Hp) : Prop := ∃ l b xs zs, x = .ref l ∧ y = .ref b ∧ H l = some (.lst xs) ∧ H b = some (.lst zs) ∧ xs.length + zs.length ≤ sizeLine ∧ ∀ p, H p = none → Q (.ref p) (upd H p (.lst (xs ++ zs)))
theorem catI (h : CatL Q x y H) : rCat x y H Q := h
theorem cat {a b : Addr} {xs zs : List V} (h1 : H a = some (.lst xs)) (h2 : H b = some (.lst zs)) (s : xs.length + zs.length ≤ 100000) (h : ∀ p H', H p = none → Same H H' → H' p = some (.lst (xs ++ zs)) → Q (.ref p) H') : CatL Q (.ref a) (.ref b) H := ⟨a, b, xs, zs, rfl, rfl, h1, h2, sz s, fun p np => h p _ np (same_new np) upd_same⟩
theorem v16 {a0 a1 a2 a3 a4 a5 a6 a7 a8 a9 a10 a11 a12 a13 a14 a15 : Option V} (h : Q v H) : tVar 16 (a0 :: a1 :: a2 :: a3 :: a4 :: a5 :: a6 :: a7 :: a8 :: a9 :: a10 :: a11 :: a12 :: a13 :: a14 :: a15 :: some v :: r) H Q := ⟨v, rfl, h⟩
theorem n16 {a0 a1 a2 a3 a4 a5 a6 a7 a8 a9 a10 a11 a12 a13 a14 a15 : Option V} {Q : L2.St → Hp → Prop} (h : Q (a0 :: a1 :: a2 :: a3 :: a4 :: a5 :: a6 :: a7 :: a8 :: a9 :: a10 :: a11 :: a12 :: a13 :: a14 :: a15 :: some v :: r) H) : gName 16 v (a0 :: a1 :: a2 :: a3 :: a4 :: a5 :: a6 :: a7 :: a8 :: a9 :: a10 :: a11 :: a12 :: a13 :: a14 :: a15 :: a :: r) H Q := h
theorem g16 {a0 a1 a2 a3 a4 a5 a6 a7 a8 a9 a10 a11 a12 a13 a14 a15 : Option V} {ti : TIp} (h : te (a0 :: a1 :: a2 :: a3 :: a4 :: a5 :: a6 :: a7 :: a8 :: a9 :: a10 :: a11 :: a12 :: a13 :: a14 :: a15 :: some x :: r) H fun y H1 => ti x y H1 fun z H2 => D.nx (a0 :: a1 :: a2 :: a3 :: a4 :: a5 :: a6 :: a7 :: a8 :: a9 :: a10 :: a11 :: a12 :: a13 :: a14 :: a15 :: some z :: r) H2) : tAug 16 te ti D (a0 :: a1 :: a2 :: a3 :: a4 :: a5 :: a6 :: a7 :: a8 :: a9 :: a10 :: a11 :: a12 :: a13 :: a14 :: a15 :: some x :: r) H := ⟨x, rfl, h⟩
theorem v17 {a0 a1 a2 a3 a4 a5 a6 a7 a8 a9 a10 a11 a12 a13 a14 a15 a16 : Option V} (h : Q v H) : tVar 17 (a0 :: a1 :: a2 :: a3 :: a4 :: a5 :: a6 :: a7 :: a8 :: a9 :: a10 :: a11 :: a12 :: a13 :: a14 :: a15 :: a16 :: some v :: r) H Q := ⟨v, rfl, h⟩
theorem n17 {a0 a1 a2 a3 a4 a5 a6 a7 a8 a9 a10 a11 a12 a13 a14 a15 a16 : Option V} {Q : L2.St → Hp → Prop} (h : Q (a0 :: a1 :: a2 :: a3 :: a4 :: a5 :: a6 :: a7 :: a8 :: a9 :: a10 :: a11 :: a12 :: a13 :: a14 :: a15 :: a16 :: some v :: r) H) : gName 17 v (a0 :: a1 :: a2 :: a3 :: a4 :: a5 :: a6 :: a7 :: a8 :: a9 :: a10 :: a11 :: a12 :: a13 :: a14 :: a15 :: a16 :: a :: r) H Q := h
theorem g17 {a0 a1 a2 a3 a4 a5 a6 a7 a8 a9 a10 a11 a12 a13 a14 a15 a16 : Option V} {ti : TIp} (h : te (a0 :: a1 :: a2 :: a3 :: a4 :: a5 :: a6 :: a7 :: a8 :: a9 :: a10 :: a11 :: a12 :: a13 :: a14 :: a15 :: a16 :: some x :: r) H fun y H1 => ti x y H1 fun z H2 => D.nx (a0 :: a1 :: a2 :: a3 :: a4 :: a5 :: a6 :: a7 :: a8 :: a9 :: a10 :: a11 :: a12 :: a13 :: a14 :: a15 :: a16 :: some z :: r) H2) : tAug 17 te ti D (a0 :: a1 :: a2 :: a3 :: a4 :: a5 :: a6 :: a7 :: a8 :: a9 :: a10 :: a11 :: a12 :: a13 :: a14 :: a15 :: a16 :: some x :: r) H := ⟨x, rfl, h⟩
theorem v18 {a0 a1 a2 a3 a4 a5 a6 a7 a8 a9 a10 a11 a12 a13 a14 a15 a16 a17 : Option V} (h : Q v H) : tVar 18 (a0 :: a1 :: a2 :: a3 :: a4 :: a5 :: a6 :: a7 :: a8 :: a9 :: a10 :: a11 :: a12 :: a13 :: a14 :: a15 :: a16 :: a17 :: some v :: r) H Q := ⟨v, rfl, h⟩
theorem n18 {a0 a1 a2 a3 a4 a5 a6 a7 a8 a9 a10 a11 a12 a13 a14 a15 a16 a17 : Option V} {Q : L2.St → Hp → Prop} (h : Q (a0 :: a1 :: a2 :: a3 :: a4 :: a5 :: a6 :: a7 :: a8 :: a9 :: a10 :: a11 :: a12 :: a13 :: a14 :: a15 :: a16 :: a17 :: some v :: r) H) : gName 18 v (a0 :: a1 :: a2 :: a3 :: a4 :: a5 :: a6 :: a7 :: a8 :: a9 :: a10 :: a11 :: a12 :: a13 :: a14 :: a15 :: a16 :: a17 :: a :: r) H Q := h
theorem g18 {a0 a1 a2 a3 a4 a5 a6 a7 a8 a9 a10 a11 a12 a13 a14 a15 a16 a17 : Option V} {ti : TIp} (h : te (a0 :: a1 :: a2 :: a3 :: a4 :: a5 :: a6 :: a7 :: a8 :: a9 :: a10 :: a11 :: a12 :: a13 :: a14 :: a15 :: a16 :: a17 :: some x :: r) H fun y H1 => ti x y H1 fun z H2 => D.nx (a0 :: a1 :: a2 :: a3 :: a4 :: a5 :: a6 :: a7 :: a8 :: a9 :: a10 :: a11 :: a12 :: a13 :: a14 :: a15 :: a16 :: a17 :: some z :: r) H2) : tAug 18 te ti D (a0 :: a1 :: a2 :: a3 :: a4 :: a5 :: a6 :: a7 :: a8 :: a9 :: a10 :: a11 :: a12 :: a13 :: a14 :: a15 :: a16 :: a17 :: some x :: r) H := ⟨x, rfl, h⟩
theorem v19 {a0 a1 a2 a3 a4 a5 a6 a7 a8 a9 a10 a11 a12 a13 a14 a15 a16 a17 a18 : Option V} (h : Q v H) : tVar 19 (a0 :: a1 :: a2 :: a3 :: a4 :: a5 :: a6 :: a7 :: a8 :: a9 :: a10 :: a11 :: a12 :: a13 :: a14 :: a15 :: a16 :: a17 :: a18 :: some v :: r) H Q := ⟨v, rfl, h⟩
theorem n19 {a0 a1 a2 a3 a4 a5 a6 a7 a8 a9 a10 a11 a12 a13 a14 a15 a16 a17 a18 : Option V} {Q : L2.St → Hp → Prop} (h : Q (a0 :: a1 :: a2 :: a3 :: a4 :: a5 :: a6 :: a7 :: a8 :: a9 :: a10 :: a11 :: a12 :: a13 :: a14 :: a15 :: a16 :: a17 :: a18 :: some v :: r) H) : gName 19 v (a0 :: a1 :: a2 :: a3 :: a4 :: a5 :: a6 :: a7 :: a8 :: a9 :: a10 :: a11 :: a12 :: a13 :: a14 :: a15 :: a16 :: a17 :: a18 :: a :: r) H Q := h
theorem g19 {a0 a1 a2 a3 a4 a5 a6 a7 a8 a9 a10 a11 a12 a13 a14 a15 a16 a17 a18 : Option V} {ti : TIp} (h : te (a0 :: a1 :: a2 :: a3 :: a4 :: a5 :: a6 :: a7 :: a8 :: a9 :: a10 :: a11 :: a12 :: a13 :: a14 :: a15 :: a16 :: a17 :: a18 :: some x :: r) H fun y H1 => ti x y H1 fun z H2 => D.nx (a0 :: a1 :: a2 :: a3 :: a4 :: a5 :: a6 :: a7 :: a8 :: a9 :: a10 :: a11 :: a12 :: a13 :: a14 :: a15 :: a16 :: a17 :: a18 :: some z :: r) H2) : tAug 19 te ti D (a0 :: a1 :: a2 :: a3 :: a4 :: a5 :: a6 :: a7 :: a8 :: a9 :: a10 :: a11 :: a12 :: a13 :: a14 :: a15 :: a16 :: a17 :: a18 :: some x :: r) H := ⟨x, rfl, h⟩
theorem v20 {a0 a1 a2 a3 a4 a5 a6 a7 a8 a9 a10 a11 a12 a13 a14 a15 a16 a17 a18 a19 : Option V} (h : Q v H) : tVar 20 (a0 :: a1 :: a2 :: a3 :: a4 :: a5 :: a6 :: a7 :: a8 :: a9 :: a10 :: a11 :: a12 :: a13 :: a14 :: a15 :: a16 :: a17 :: a18 :: a19 :: some v :: r) H Q := ⟨v, rfl, h⟩
theorem n20 {a0 a1 a2 a3 a4 a5 a6 a7 a8 a9 a10 a11 a12 a13 a14 a15 a16 a17 a18 a19 : Option V} {Q : L2.St → Hp → Prop} (h : Q (a0 :: a1 :: a2 :: a3 :: a4 :: a5 :: a6 :: a7 :: a8 :: a9 :: a10 :: a11 :: a12 :: a13 :: a14 :: a15 :: a16 :: a17 :: a18 :: a19 :: some v :: r) H) : gName 20 v (a0 :: a1 :: a2 :: a3 :: a4 :: a5 :: a6 :: a7 :: a8 :: a9 :: a10 :: a11 :: a12 :: a13 :: a14 :: a15 :: a16 :: a17 :: a18 :: a19 :: a :: r) H Q := h
theorem g20 {a0 a1 a2 a3 a4 a5 a6 a7 a8 a9 a10 a11 a12 a13 a14 a15 a16 a17 a18 a19 : Option V} {ti : TIp} (h : te (a0 :: a1 :: a2 :: a3 :: a4 :: a5 :: a6 :: a7 :: a8 :: a9 :: a10 :: a11 :: a12 :: a13 :: a14 :: a15 :: a16 :: a17 :: a18 :: a19 :: some x :: r) H fun y H1 => ti x y H1 fun z H2 => D.nx (a0 :: a1 :: a2 :: a3 :: a4 :: a5 :: a6 :: a7 :: a8 :: a9 :: a10 :: a11 :: a12 :: a13 :: a14 :: a15 :: a16 :: a17 :: a18 :: a19 :: some z :: r) H2) : tAug 20 te ti D (a0 :: a1 :: a2 :: a3 :: a4 :: a5 :: a6 :: a7 :: a8 :: a9 :: a10 :: a11 :: a12 :: a13 :: a14 :: a15 :: a16 :: a17 :: a18 :: a19 :: some x :: r) H := ⟨x, rfl, h⟩
theorem v21 {a0 a1 a2 a3 a4 a5 a6 a7 a8 a9 a10 a11 a12 a13 a14 a15 a16 a17 a18 a19 a20 : Option V} (h : Q v H) : tVar 21 (a0 :: a1 :: a2 :: a3 :: a4 :: a5 :: a6 :: a7 :: a8 :: a9 :: a10 :: a11 :: a12 :: a13 :: a14 :: a15 :: a16 :: a17 :: a18 :: a19 :: a20 :: some v :: r) H Q := ⟨v, rfl, h⟩
theorem n21 {a0 a1 a2 a3 a4 a5 a6 a7 a8 a9 a10 a11 a12 a13 a14 a15 a16 a17 a18 a19 a20 : Option V} {Q : L2.St → Hp → Prop} (h : Q (a0 :: a1 :: a2 :: a3 :: a4 :: a5 :: a6 :: a7 :: a8 :: a9 :: a10 :: a11 :: a12 :: a13 :: a14 :: a15 :: a16 :: a17 :: a18 :: a19 :: a20 :: some v :: r) H) : gName 21 v (a0 :: a1 :: a2 :: a3 :: a4 :: a5 :: a6 :: a7 :: a8 :: a9 :: a10 :: a11 :: a12 :: a13 :: a14 :: a15 :: a16 :: a17 :: a18 :: a19 :: a20 :: a :: r) H Q := h
theorem g21 {a0 a1 a2 a3 a4 a5 a6 a7 a8 a9 a10 a11 a12 a13 a14 a15 a16 a17 a18 a19 a20 : Option V} {ti : TIp} (h : te (a0 :: a1 :: a2 :: a3 :: a4 :: a5 :: a6 :: a7 :: a8 :: a9 :: a10 :: a11 :: a12 :: a13 :: a14 :: a15 :: a16 :: a17 :: a18 :: a19 :: a20 :: some x :: r) H fun y H1 => ti x y H1 fun z H2 => D.nx (a0 :: a1 :: a2 :: a3 :: a4 :: a5 :: a6 :: a7 :: a8 :: a9 :: a10 :: a11 :: a12 :: a13 :: a14 :: a15 :: a16 :: a17 :: a18 :: a19 :: a20 :: some z :: r) H2) : tAug 21 te ti D (a0 :: a1 :: a2 :: a3 :: a4 :: a5 :: a6 :: a7 :: a8 :: a9 :: a10 :: a11 :: a12 :: a13 :: a14 :: a15 :: a16 :: a17 :: a18 :: a19 :: a20 :: some x :: r) H := ⟨x, rfl, h⟩
theorem v22 {a0 a1 a2 a3 a4 a5 a6 a7 a8 a9 a10 a11 a12 a13 a14 a15 a16 a17 a18 a19 a20 a21 : Option V} (h : Q v H) : tVar 22 (a0 :: a1 :: a2 :: a3 :: a4 :: a5 :: a6 :: a7 :: a8 :: a9 :: a10 :: a11 :: a12 :: a13 :: a14 :: a15 :: a16 :: a17 :: a18 :: a19 :: a20 :: a21 :: some v :: r) H Q := ⟨v, rfl, h⟩
theorem n22 {a0 a1 a2 a3 a4 a5 a6 a7 a8 a9 a10 a11 a12 a13 a14 a15 a16 a17 a18 a19 a20 a21 : Option V} {Q : L2.St → Hp → Prop} (h : Q (a0 :: a1 :: a2 :: a3 :: a4 :: a5 :: a6 :: a7 :: a8 :: a9 :: a10 :: a11 :: a12 :: a13 :: a14 :: a15 :: a16 :: a17 :: a18 :: a19 :: a20 :: a21 :: some v :: r) H) : gName 22 v (a0 :: a1 :: a2 :: a3 :: a4 :: a5 :: a6 :: a7 :: a8 :: a9 :: a10 :: a11 :: a12 :: a13 :: a14 :: a15 :: a16 :: a17 :: a18 :: a19 :: a20 :: a21 :: a :: r) H Q := h
theorem g22 {a0 a1 a2 a3 a4 a5 a6 a7 a8 a9 a10 a11 a12 a13 a14 a15 a16 a17 a18 a19 a20 a21 : Option V} {ti : TIp} (h : te (a0 :: a1 :: a2 :: a3 :: a4 :: a5 :: a6 :: a7 :: a8 :: a9 :: a10 :: a11 :: a12 :: a13 :: a14 :: a15 :: a16 :: a17 :: a18 :: a19 :: a20 :: a21 :: some x :: r) H fun y H1 => ti x y H1 fun z H2 => D.nx (a0 :: a1 :: a2 :: a3 :: a4 :: a5 :: a6 :: a7 :: a8 :: a9 :: a10 :: a11 :: a12 :: a13 :: a14 :: a15 :: a16 :: a17 :: a18 :: a19 :: a20 :: a21 :: some z :: r) H2) : tAug 22 te ti D (a0 :: a1 :: a2 :: a3 :: a4 :: a5 :: a6 :: a7 :: a8 :: a9 :: a10 :: a11 :: a12 :: a13 :: a14 :: a15 :: a16 :: a17 :: a18 :: a19 :: a20 :: a21 :: some x :: r) H := ⟨x, rfl, h⟩
theorem v23 {a0 a1 a2 a3 a4 a5 a6 a7 a8 a9 a10 a11 a12 a13 a14 a15 a16 a17 a18 a19 a20 a21 a22 : Option V} (h : Q v H) : tVar 23 (a0 :: a1 :: a2 :: a3 :: a4 :: a5 :: a6 :: a7 :: a8 :: a9 :: a10 :: a11 :: a12 :: a13 :: a14 :: a15 :: a16 :: a17 :: a18 :: a19 :: a20 :: a21 :: a22 :: some v :: r) H Q := ⟨v, rfl, h⟩
theorem n23 {a0 a1 a2 a3 a4 a5 a6 a7 a8 a9 a10 a11 a12 a13 a14 a15 a16 a17 a18 a19 a20 a21 a22 : Option V} {Q : L2.St → Hp → Prop} (h : Q (a0 :: a1 :: a2 :: a3 :: a4 :: a5 :: a6 :: a7 :: a8 :: a9 :: a10 :: a11 :: a12 :: a13 :: a14 :: a15 :: a16 :: a17 :: a18 :: a19 :: a20 :: a21 :: a22 :: some v :: r) H) : gName 23 v (a0 :: a1 :: a2 :: a3 :: a4 :: a5 :: a6 :: a7 :: a8 :: a9 :: a10 :: a11 :: a12 :: a13 :: a14 :: a15 :: a16 :: a17 :: a18 :: a19 :: a20 :: a21 :: a22 :: a :: r) H Q := h
theorem g23 {a0 a1 a2 a3 a4 a5 a6 a7 a8 a9 a10 a11 a12 a13 a14 a15 a16 a17 a18 a19 a20 a21 a22 : Option V} {ti : TIp} (h : te (a0 :: a1 :: a2 :: a3 :: a4 :: a5 :: a6 :: a7 :: a8 :: a9 :: a10 :: a11 :: a12 :: a13 :: a14 :: a15 :: a16 :: a17 :: a18 :: a19 :: a20 :: a21 :: a22 :: some x :: r) H fun y H1 => ti x y H1 fun z H2 => D.nx (a0 :: a1 :: a2 :: a3 :: a4 :: a5 :: a6 :: a7 :: a8 :: a9 :: a10 :: a11 :: a12 :: a13 :: a14 :: a15 :: a16 :: a17 :: a18 :: a19 :: a20 :: a21 :: a22 :: some z :: r) H2) : tAug 23 te ti D (a0 :: a1 :: a2 :: a3 :: a4 :: a5 :: a6 :: a7 :: a8 :: a9 :: a10 :: a11 :: a12 :: a13 :: a14 :: a15 :: a16 :: a17 :: a18 :: a19 :: a20 :: a21 :: a22 :: some x :: r) H := ⟨x, rfl, h⟩
theorem v24 {a0 a1 a2 a3 a4 a5 a6 a7 a8 a9 a10 a11 a12 a13 a14 a15 a16 a17 a18 a19 a20 a21 a22 a23 : Option V} (h : Q v H) : tVar 24 (a0 :: a1 :: a2 :: a3 :: a4 :: a5 :: a6 :: a7 :: a8 :: a9 :: a10 :: a11 :: a12 :: a13 :: a14 :: a15 :: a16 :: a17 :: a18 :: a19 :: a20 :: a21 :: a22 :: a23 :: some v :: r) H Q := ⟨v, rfl, h⟩
theorem n24 {a0 a1 a2 a3 a4 a5 a6 a7 a8 a9 a10 a11 a12 a13 a14 a15 a16 a17 a18 a19 a20 a21 a22 a23 : Option V} {Q : L2.St → Hp → Prop} (h : Q (a0 :: a1 :: a2 :: a3 :: a4 :: a5 :: a6 :: a7 :: a8 :: a9 :: a10 :: a11 :: a12 :: a13 :: a14 :: a15 :: a16 :: a17 :: a18 :: a19 :: a20 :: a21 :: a22 :: a23 :: some v :: r) H) : gName 24 v (a0 :: a1 :: a2 :: a3 :: a4 :: a5 :: a6 :: a7 :: a8 :: a9 :: a10 :: a11 :: a12 :: a13 :: a14 :: a15 :: a16 :: a17 :: a18 :: a19 :: a20 :: a21 :: a22 :: a23 :: a :: r) H Q := h
theorem g24 {a0 a1 a2 a3 a4 a5 a6 a7 a8 a9 a10 a11 a12 a13 a14 a15 a16 a17 a18 a19 a20 a21 a22 a23 : Option V} {ti : TIp} (h : te (a0 :: a1 :: a2 :: a3 :: a4 :: a5 :: a6 :: a7 :: a8 :: a9 :: a10 :: a11 :: a12 :: a13 :: a14 :: a15 :: a16 :: a17 :: a18 :: a19 :: a20 :: a21 :: a22 :: a23 :: some x :: r) H fun y H1 => ti x y H1 fun z H2 => D.nx (a0 :: a1 :: a2 :: a3 :: a4 :: a5 :: a6 :: a7 :: a8 :: a9 :: a10 :: a11 :: a12 :: a13 :: a14 :: a15 :: a16 :: a17 :: a18 :: a19 :: a20 :: a21 :: a22 :: a23 :: some z :: r) H2) : tAug 24 te ti D (a0 :: a1 :: a2 :: a3 :: a4 :: a5 :: a6 :: a7 :: a8 :: a9 :: a10 :: a11 :: a12 :: a13 :: a14 :: a15 :: a16 :: a17 :: a18 :: a19 :: a20 :: a21 :: a22 :: a23 :: some x :: r) H := ⟨x, rfl, h⟩
theorem v25 {a0 a1 a2 a3 a4 a5 a6 a7 a8 a9 a10 a11 a12 a13 a14 a15 a16 a17 a18 a19 a20 a21 a22 a23 a24 : Option V} (h : Q v H) : tVar 25 (a0 :: a1 :: a2 :: a3 :: a4 :: a5 :: a6 :: a7 :: a8 :: a9 :: a10 :: a11 :: a12 :: a13 :: a14 :: a15 :: a16 :: a17 :: a18 :: a19 :: a20 :: a21 :: a22 :: a23 :: a24 :: some v :: r) H Q := ⟨v, rfl, h⟩
theorem n25 {a0 a1 a2 a3 a4 a5 a6 a7 a8 a9 a10 a11 a12 a13 a14 a15 a16 a17 a18 a19 a20 a21 a22 a23 a24 : Option V} {Q : L2.St → Hp → Prop} (h : Q (a0 :: a1 :: a2 :: a3 :: a4 :: a5 :: a6 :: a7 :: a8 :: a9 :: a10 :: a11 :: a12 :: a13 :: a14 :: a15 :: a16 :: a17 :: a18 :: a19 :: a20 :: a21 :: a22 :: a23 :: a24 :: some v :: r) H) : gName 25 v (a0 :: a1 :: a2 :: a3 :: a4 :: a5 :: a6 :: a7 :: a8 :: a9 :: a10 :: a11 :: a12 :: a13 :: a14 :: a15 :: a16 :: a17 :: a18 :: a19 :: a20 :: a21 :: a22 :: a23 :: a24 :: a :: r) H Q := h
theorem g25 {a0 a1 a2 a3 a4 a5 a6 a7 a8 a9 a10 a11 a12 a13 a14 a15 a16 a17 a18 a19 a20 a21 a22 a23 a24 : Option V} {ti : TIp} (h : te (a0 :: a1 :: a2 :: a3 :: a4 :: a5 :: a6 :: a7 :: a8 :: a9 :: a10 :: a11 :: a12 :: a13 :: a14 :: a15 :: a16 :: a17 :: a18 :: a19 :: a20 :: a21 :: a22 :: a23 :: a24 :: some x :: r) H fun y H1 => ti x y H1 fun z H2 => D.nx (a0 :: a1 :: a2 :: a3 :: a4 :: a5 :: a6 :: a7 :: a8 :: a9 :: a10 :: a11 :: a12 :: a13 :: a14 :: a15 :: a16 :: a17 :: a18 :: a19 :: a20 :: a21 :: a22 :: a23 :: a24 :: some z :: r) H2) : tAug 25 te ti D (a0 :: a1 :: a2 :: a3 :: a4 :: a5 :: a6 :: a7 :: a8 :: a9 :: a10 :: a11 :: a12 :: a13 :: a14 :: a15 :: a16 :: a17 :: a18 :: a19 :: a20 :: a21 :: a22 :: a23 :: a24 :: some x :: r) H := ⟨x, rfl, h⟩
theorem v26 {a0 a1 a2 a3 a4 a5 a6 a7 a8 a9 a10 a11 a12 a13 a14 a15 a16 a17 a18 a19 a20 a21 a22 a23 a24 a25 : Option V} (h : Q v H) : tVar 26 (a0 :: a1 :: a2 :: a3 :: a4 :: a5 :: a6 :: a7 :: a8 :: a9 :: a10 :: a11 :: a12 :: a13 :: a14 :: a15 :: a16 :: a17 :: a18 :: a19 :: a20 :: a21 :: a22 :: a23 :: a24 :: a25 :: some v :: r) H Q := ⟨v, rfl, h⟩
theorem n26 {a0 a1 a2 a3 a4 a5 a6 a7 a8 a9 a10 a11 a12 a13 a14 a15 a16 a17 a18 a19 a20 a21 a22 a23 a24 a25 : Option V} {Q : L2.St → Hp → Prop} (h : Q (a0 :: a1 :: a2 :: a3 :: a4 :: a5 :: a6 :: a7 :: a8 :: a9 :: a10 :: a11 :: a12 :: a13 :: a14 :: a15 :: a16 :: a17 :: a18 :: a19 :: a20 :: a21 :: a22 :: a23 :: a24 :: a25 :: some v :: r) H) : gName 26 v (a0 :: a1 :: a2 :: a3 :: a4 :: a5 :: a6 :: a7 :: a8 :: a9 :: a10 :: a11 :: a12 :: a13 :: a14 :: a15 :: a16 :: a17 :: a18 :: a19 :: a20 :: a21 :: a22 :: a23 :: a24 :: a25 :: a :: r) H Q := h
theorem g26 {a0 a1 a2 a3 a4 a5 a6 a7 a8 a9 a10 a11 a12 a13 a14 a15 a16 a17 a18 a19 a20 a21 a22 a23 a24 a25 : Option V} {ti : TIp} (h : te (a0 :: a1 :: a2 :: a3 :: a4 :: a5 :: a6 :: a7 :: a8 :: a9 :: a10 :: a11 :: a12 :: a13 :: a14 :: a15 :: a16 :: a17 :: a18 :: a19 :: a20 :: a21 :: a22 :: a23 :: a24 :: a25 :: some x :: r) H fun y H1 => ti x y H1 fun z H2 => D.nx (a0 :: a1 :: a2 :: a3 :: a4 :: a5 :: a6 :: a7 :: a8 :: a9 :: a10 :: a11 :: a12 :: a13 :: a14 :: a15 :: a16 :: a17 :: a18 :: a19 :: a20 :: a21 :: a22 :: a23 :: a24 :: a25 :: some z :: r) H2) : tAug 26 te ti D (a0 :: a1 :: a2 :: a3 :: a4 :: a5 :: a6 :: a7 :: a8 :: a9 :: a10 :: a11 :: a12 :: a13 :: a14 :: a15 :: a16 :: a17 :: a18 :: a19 :: a20 :: a21 :: a22 :: a23 :: a24 :: a25 :: some x :: r) H := ⟨x, rfl, h⟩
theorem v27 {a0 a1 a2 a3 a4 a5 a6 a7 a8 a9 a10 a11 a12 a13 a14 a15 a16 a17 a18 a19 a20 a21 a22 a23 a24 a25 a26 : Option V} (h : Q v H) : tVar 27 (a0 :: a1 :: a2 :: a3 :: a4 :: a5 :: a6 :: a7 :: a8 :: a9 :: a10 :: a11 :: a12 :: a13 :: a14 :: a15 :: a16 :: a17 :: a18 :: a19 :: a20 :: a21 :: a22 :: a23 :: a24 :: a25 :: a26 :: some v :: r) H Q := ⟨v, rfl, h⟩
theorem n27 {a0 a1 a2 a3 a4 a5 a6 a7 a8 a9 a10 a11 a12 a13 a14 a15 a16 a17 a18 a19 a20 a21 a22 a23 a24 a25 a26 : Option V} {Q : L2.St → Hp → Prop} (h : Q (a0 :: a1 :: a2 :: a3 :: a4 :: a5 :: a6 :: a7 :: a8 :: a9 :: a10 :: a11 :: a12 :: a13 :: a14 :: a15 :: a16 :: a17 :: a18 :: a19 :: a20 :: a21 :: a22 :: a23 :: a24 :: a25 :: a26 :: some v :: r) H) : gName 27 v (a0 :: a1 :: a2 :: a3 :: a4 :: a5 :: a6 :: a7 :: a8 :: a9 :: a10 :: a11 :: a12 :: a13 :: a14 :: a15 :: a16 :: a17 :: a18 :: a19 :: a20 :: a21 :: a22 :: a23 :: a24 :: a25 :: a26 :: a :: r) H Q := h
theorem g27 {a0 a1 a2 a3 a4 a5 a6 a7 a8 a9 a10 a11 a12 a13 a14 a15 a16 a17 a18 a19 a20 a21 a22 a23 a24 a25 a26 : Option V} {ti : TIp} (h : te (a0 :: a1 :: a2 :: a3 :: a4 :: a5 :: a6 :: a7 :: a8 :: a9 :: a10 :: a11 :: a12 :: a13 :: a14 :: a15 :: a16 :: a17 :: a18 :: a19 :: a20 :: a21 :: a22 :: a23 :: a24 :: a25 :: a26 :: some x :: r) H fun y H1 => ti x y H1 fun z H2 => D.nx (a0 :: a1 :: a2 :: a3 :: a4 :: a5 :: a6 :: a7 :: a8 :: a9 :: a10 :: a11 :: a12 :: a13 :: a14 :: a15 :: a16 :: a17 :: a18 :: a19 :: a20 :: a21 :: a22 :: a23 :: a24 :: a25 :: a26 :: some z :: r) H2) : tAug 27 te ti D (a0 :: a1 :: a2 :: a3 :: a4 :: a5 :: a6 :: a7 :: a8 :: a9 :: a10 :: a11 :: a12 :: a13 :: a14 :: a15 :: a16 :: a17 :: a18 :: a19 :: a20 :: a21 :: a22 :: a23 :: a24 :: a25 :: a26 :: some x :: r) H := ⟨x, rfl, h⟩
end Rd

set_option Elab.async false
set_option linter.all false
namespace Mine
open PySem PySem.Spec PyProof.Rows L2
def upI (n d : Int) : Int := -(-n / d)
def sA (w : Int) (ps : List (Int × Int)) : Int := (ps.map fun p => p.2 * upI w p.1).sum
def sR (w c : Int) (es : List Int) : Int := (es.map fun e => c * upI w e).sum
def dmI (w o b : Int) (ps : List (Int × Int)) (es : List Int) (c s : Int) : Int := o + b + sA w ps + sR (w + s) c es
theorem sum_app (a b : List Int) : (a ++ b).sum = a.sum + b.sum := by
  induction a with
  | nil => simp
  | cons x r ih => simp [ih]; omega
theorem sA_add {w : Int} {ps : List (Int × Int)} {i : Nat} {p : Int × Int} (h : ps[i]? = some p) : sA w (ps.take (i + 1)) = sA w (ps.take i) + p.2 * upI w p.1 := by
  unfold sA
  rw [List.take_add_one, h, List.map_append, sum_app]
  simp
theorem sR_add {w c : Int} {es : List Int} {i : Nat} {e : Int} (h : es[i]? = some e) : sR w c (es.take (i + 1)) = sR w c (es.take i) + c * upI w e := by
  unfold sR
  rw [List.take_add_one, h, List.map_append, sum_app]
  simp
/-! ### the mathematics of response times -/
theorem upI_iff {n d u : Int} (h : 0 < d) : upI n d = u ↔ (u - 1) * d < n ∧ n ≤ u * d := by
  unfold upI
  have key : -n / d = -u ↔ (u - 1) * d < n ∧ n ≤ u * d := by
    rw [Int.ediv_eq_iff_of_pos h, Int.neg_mul, Int.sub_mul]
    omega
  rw [← key]
  omega
theorem upI_le {n d : Int} (h : 0 < d) : n ≤ upI n d * d := ((upI_iff h).mp rfl).2
theorem upI_gt {n d : Int} (h : 0 < d) : (upI n d - 1) * d < n := ((upI_iff h).mp rfl).1
theorem upI_mono {n m d : Int} (h : 0 < d) (e : n ≤ m) : upI n d ≤ upI m d := by
  have a := upI_gt (n := n) h
  have b := upI_le (n := m) h
  have c : (upI n d - 1) * d < upI m d * d := by omega
  have := Int.lt_of_mul_lt_mul_right c (by omega)
  omega
theorem upI_scale {w t s : Int} (ht : 0 < t) (hs : 0 < s) : upI w (t * s) = upI (upI w s) t := by
  rw [upI_iff (Int.mul_pos ht hs)]
  have a1 := upI_gt (n := upI w s) ht
  have a2 := upI_le (n := upI w s) ht
  have b1 := upI_gt (n := w) hs
  have b2 := upI_le (n := w) hs
  generalize upI w s = v at *
  generalize upI v t = u at *
  constructor
  · have : (u - 1) * t ≤ v - 1 := by omega
    have := Int.mul_le_mul_of_nonneg_right this (show 0 ≤ s by omega)
    rw [Int.mul_assoc] at this
    omega
  · have := Int.mul_le_mul_of_nonneg_right a2 (show 0 ≤ s by omega)
    rw [Int.mul_assoc] at this
    omega
theorem upI_add {w a s : Int} (hs : 0 < s) : upI (w + a * s) s = upI w s + a := by
  rw [upI_iff hs]
  have b1 := upI_gt (n := w) hs
  have b2 := upI_le (n := w) hs
  rw [show upI w s + a - 1 = (upI w s - 1) + a by omega, Int.add_mul, Int.add_mul]
  omega
theorem upI_own {u s : Int} (hs : 0 < s) : upI (u * s) s = u := by
  rw [upI_iff hs, Int.sub_mul]
  omega
theorem sA_mono {ps : List (Int × Int)} (hp : ∀ p ∈ ps, 0 < p.1 ∧ 0 ≤ p.2) {n m : Int} (e : n ≤ m) : sA n ps ≤ sA m ps := by
  induction ps with
  | nil => exact Int.le_refl _
  | cons p r ih =>
    have h1 := hp p List.mem_cons_self
    have h2 := ih fun q m => hp q (List.mem_cons_of_mem _ m)
    have h3 := Int.mul_le_mul_of_nonneg_left (upI_mono h1.1 e) h1.2
    unfold sA at h2 ⊢
    simp only [List.map_cons, List.sum_cons]
    omega
def pairs (es : List Int) (c : Int) : List (Int × Int) := es.map fun e => (e, c)
theorem sR_pairs {w c : Int} {es : List Int} : sR w c es = sA w (pairs es c) := by
  unfold sR sA pairs
  rw [List.map_map]
  rfl
theorem sA_app {w : Int} {a b : List (Int × Int)} : sA w (a ++ b) = sA w a + sA w b := by
  unfold sA
  rw [List.map_append, sum_app]
theorem dm_mono {o b c s : Int} {ps : List (Int × Int)} {es : List Int} (hp : ∀ p ∈ ps, 0 < p.1 ∧ 0 ≤ p.2) (he : ∀ e ∈ es, 0 < e) (hc : 0 ≤ c) {n m : Int} (e : n ≤ m) : dmI n o b ps es c s ≤ dmI m o b ps es c s := by
  unfold dmI
  rw [sR_pairs, sR_pairs]
  have h1 := sA_mono hp e
  have h2 := sA_mono (ps := pairs es c) (n := n + s) (m := m + s) (fun q m => by
    obtain ⟨x, hx, rfl⟩ := List.mem_map.mp m
    exact ⟨he x hx, hc⟩) (by omega)
  omega
def prI : List (Int × Int) → Int
  | [] => 1
  | p :: r => p.1 * prI r
theorem prI_app (a b : List (Int × Int)) : prI (a ++ b) = prI a * prI b := by
  induction a with
  | nil => simp [prI]
  | cons p r ih => simp [prI, ih, Int.mul_assoc]
theorem prI_add {ps : List (Int × Int)} {i : Nat} {p : Int × Int} (h : ps[i]? = some p) : prI (ps.take (i + 1)) = prI (ps.take i) * p.1 := by
  rw [List.take_add_one, h, prI_app]
  simp [prI]
theorem prI_pos {ps : List (Int × Int)} (hp : ∀ p ∈ ps, 0 < p.1) : 0 < prI ps := by
  induction ps with
  | nil => decide
  | cons p r ih => exact Int.mul_pos (hp p List.mem_cons_self) (ih fun q m => hp q (List.mem_cons_of_mem _ m))
theorem prI_dvd {ps : List (Int × Int)} {p : Int × Int} (h : p ∈ ps) : p.1 ∣ prI ps := by
  induction ps with
  | nil => simp at h
  | cons q r ih =>
    rcases List.mem_cons.mp h with rfl | h
    · exact ⟨prI r, rfl⟩
    · obtain ⟨k, hk⟩ := ih h
      exact ⟨q.1 * k, by rw [prI, hk, ← Int.mul_assoc, ← Int.mul_assoc, Int.mul_comm q.1]⟩
def ndI (W : Int) (ps : List (Int × Int)) : Int := (ps.map fun p => p.2 * (W / p.1)).sum
theorem nd_le {W w : Int} (hW : 0 ≤ W) {ps : List (Int × Int)} (hp : ∀ p ∈ ps, 0 < p.1 ∧ 0 ≤ p.2 ∧ p.1 ∣ W) : w * ndI W ps ≤ sA w ps * W := by
  induction ps with
  | nil => simp [ndI, sA]
  | cons p r ih =>
    have h1 := hp p List.mem_cons_self
    have h2 := ih fun q m => hp q (List.mem_cons_of_mem _ m)
    obtain ⟨k, hk⟩ := h1.2.2
    have e1 : W / p.1 = k := by rw [hk, Int.mul_ediv_cancel_left _ (by omega)]
    have k0 : 0 ≤ k := by rw [← e1]; exact Int.ediv_nonneg hW (by omega)
    have h3 := Int.mul_le_mul_of_nonneg_right (upI_le (n := w) h1.1) k0
    have h4 := Int.mul_le_mul_of_nonneg_left h3 h1.2.1
    unfold ndI sA at h2 ⊢
    simp only [List.map_cons, List.sum_cons]
    rw [Int.mul_add, Int.add_mul, e1]
    have c1 : w * (p.2 * k) = p.2 * (w * k) := by rw [← Int.mul_assoc, Int.mul_comm w, Int.mul_assoc]
    have c2 : p.2 * upI w p.1 * W = p.2 * (upI w p.1 * p.1 * k) := by rw [Int.mul_assoc, Int.mul_assoc, ← hk]
    omega
/-- where the costs take all the time no window is enough -/
theorem needs_all {o b c s n : Int} {ps : List (Int × Int)} {es : List Int} (hp : ∀ p ∈ ps, 0 < p.1 ∧ 0 ≤ p.2) (he : ∀ e ∈ es, 0 < e) (hc : 0 ≤ c) (ho : 0 < o) (hb : 0 ≤ b) (hs : 0 ≤ s) (hn : 0 ≤ n)
    (h : prI (ps ++ pairs es c) ≤ ndI (prI (ps ++ pairs es c)) (ps ++ pairs es c)) : n < dmI n o b ps es c s := by
  have hq : ∀ q ∈ pairs es c, 0 < q.1 ∧ 0 ≤ q.2 := fun q m => by
    obtain ⟨x, hx, rfl⟩ := List.mem_map.mp m
    exact ⟨he x hx, hc⟩
  have ha : ∀ q ∈ ps ++ pairs es c, 0 < q.1 ∧ 0 ≤ q.2 := fun q m => (List.mem_append.mp m).elim (hp q) (hq q)
  have W0 := prI_pos (ps := ps ++ pairs es c) fun q m => (ha q m).1
  have h1 := nd_le (w := n) (Int.le_of_lt W0) (ps := ps ++ pairs es c) fun q m => ⟨(ha q m).1, (ha q m).2, prI_dvd m⟩
  have h2 := Int.mul_le_mul_of_nonneg_left h hn
  have h3 : n * prI (ps ++ pairs es c) ≤ sA n (ps ++ pairs es c) * prI (ps ++ pairs es c) := by omega
  have h4 := Int.le_of_mul_le_mul_right h3 W0
  rw [sA_app] at h4
  have h5 := sA_mono hq (n := n) (m := n + s) (by omega)
  unfold dmI
  rw [sR_pairs]
  omega
/-- the least window up to a limit that meets its demand, or none -/
def Lst (f : Int → Int) (limit : Int) (v : V) : Prop := (∃ w, v = .int w ∧ 1 ≤ w ∧ w ≤ limit ∧ f w ≤ w ∧ ∀ u, 1 ≤ u → u < w → u < f u) ∨ (v = .non ∧ ∀ u, 1 ≤ u → u ≤ limit → u < f u)
theorem lst_scale {f g : Int → Int} {limit more s : Int} {x y : V} (hs : 0 < s) (m0 : 0 ≤ more) (m1 : more < s) (mono : ∀ n m, n ≤ m → f n ≤ f m) (pos : ∀ n, 1 ≤ n → 1 ≤ f n) (hg : ∀ w, g w = f (upI w s) * s)
    (hx : Lst f limit x) (hy : Lst g (limit * s + more) y) : (∃ u, x = .int u ∧ y = .int (u * s)) ∨ (x = .non ∧ y = .non) := by
  have up1 : ∀ w, 1 ≤ w → 1 ≤ upI w s := fun w hw => by
    have := upI_le (n := w) hs
    rcases Int.lt_or_le 0 (upI w s) with h | h
    · omega
    · have := Int.mul_le_mul_of_nonneg_right h (Int.le_of_lt hs)
      omega
  rcases hx with ⟨u, rfl, u1, u2, u3, u4⟩ | ⟨rfl, hx⟩
  · left
    have fu : f u = u := by
      rcases Int.lt_or_le (f u) u with h | h
      · have a := u4 _ (pos u u1) h
        have b := mono _ _ u3
        omega
      · omega
    have us1 : 1 ≤ u * s := by
      have := Int.mul_pos (show 0 < u by omega) hs
      omega
    have usl : u * s ≤ limit * s + more := by
      have := Int.mul_le_mul_of_nonneg_right u2 (Int.le_of_lt hs)
      omega
    have gus : g (u * s) = u * s := by rw [hg, upI_own hs, fu]
    refine ⟨u, rfl, ?_⟩
    rcases hy with ⟨w, rfl, w1, w2, w3, w4⟩ | ⟨rfl, hy⟩
    · rcases Int.lt_trichotomy w (u * s) with h | h | h
      · exfalso
        rw [hg] at w3
        have v1 := up1 w w1
        have vle := upI_le (n := w) hs
        have vgt := upI_gt (n := w) hs
        have vu : upI w s ≤ u := by
          have : (upI w s - 1) * s < u * s := by omega
          have := Int.lt_of_mul_lt_mul_right this (Int.le_of_lt hs)
          omega
        rcases Int.lt_or_le (upI w s) u with c | c
        · have a := u4 _ v1 c
          have := Int.mul_le_mul_of_nonneg_right (show upI w s + 1 ≤ f (upI w s) by omega) (Int.le_of_lt hs)
          rw [Int.add_mul] at this
          omega
        · have e : upI w s = u := by omega
          rw [e, fu] at w3
          omega
      · rw [h]
      · have := w4 _ us1 h
        omega
    · have := hy _ us1 usl
      omega
  · right
    refine ⟨rfl, ?_⟩
    rcases hy with ⟨w, rfl, w1, w2, w3, w4⟩ | ⟨rfl, hy⟩
    · exfalso
      rw [hg] at w3
      have v1 := up1 w w1
      have vle := upI_le (n := w) hs
      have vgt := upI_gt (n := w) hs
      have dl : f (upI w s) ≤ limit := by
        have : f (upI w s) * s < (limit + 1) * s := by rw [Int.add_mul]; omega
        have := Int.lt_of_mul_lt_mul_right this (Int.le_of_lt hs)
        omega
      have dv : f (upI w s) ≤ upI w s := by
        have : f (upI w s) * s ≤ upI w s * s := by omega
        exact Int.le_of_mul_le_mul_right this hs
      have d1 := pos _ v1
      have := hx _ d1 dl
      have := mono _ _ dv
      omega
    · rfl
theorem dm_scale {w o b c s t : Int} (ht : 0 < t) {ps : List (Int × Int)} {es : List Int} (hp : ∀ p ∈ ps, 0 < p.1) (he : ∀ e ∈ es, 0 < e) :
    dmI w (o * t) (b * t) (ps.map fun p => (p.1 * t, p.2 * t)) (es.map (· * t)) (c * t) (s * t) = dmI (upI w t) o b ps es c s * t := by
  have h1 : ∀ (w : Int) (ps : List (Int × Int)), (∀ p ∈ ps, 0 < p.1) → sA w (ps.map fun p => (p.1 * t, p.2 * t)) = sA (upI w t) ps * t := fun w ps hp => by
    induction ps with
    | nil => simp [sA]
    | cons p r ih =>
      have a := ih fun q m => hp q (List.mem_cons_of_mem _ m)
      unfold sA at a ⊢
      simp only [List.map_cons, List.sum_cons]
      rw [a, Int.add_mul, upI_scale (hp p List.mem_cons_self) ht]
      congr 1
      rw [Int.mul_assoc, Int.mul_comm t, ← Int.mul_assoc]
  have h2 : pairs (es.map (· * t)) (c * t) = (pairs es c).map fun p => (p.1 * t, p.2 * t) := by
    unfold pairs
    rw [List.map_map, List.map_map]
    rfl
  unfold dmI
  rw [sR_pairs, sR_pairs, h2, h1 _ _ hp, h1 _ _ (fun q m => by
    obtain ⟨x, hx, rfl⟩ := List.mem_map.mp m
    exact he x hx), upI_add ht, Int.add_mul, Int.add_mul, Int.add_mul]
end Mine

set_option Elab.async false
set_option linter.all false
set_option maxRecDepth 100000
set_option maxHeartbeats 1000000



namespace Mine
open PySem PySem.Spec PyProof.Rows L2
local macro_rules | `(tactic| walk_at "my rn") => `(tactic| (repeat (first | with_reducible refine Rd.tupN ?_ | with_reducible refine Rd.lstN ?_ | with_reducible refine Rd.cbListOf ?_ | with_reducible refine Rd.cbListOfR ?_ | with_reducible refine Rd.catI ?_ | with_reducible refine Rd.slN ?_ | with_reducible refine Rd.cbSrtI ?_ | with_reducible refine Rd.seq ?_ | with_reducible refine Rd.next ?_ | with_reducible refine Rd.brk ?_ | with_reducible refine Rd.cont ?_ | with_reducible refine Rd.asg ?_ | with_reducible refine Rd.ret ?_ | with_reducible refine Rd.retN ?_ | with_reducible refine Rd.drop ?_ | with_reducible refine Rd.ifs ?_ | with_reducible refine Rd.ife ?_ | with_reducible refine Rd.test ?_ | with_reducible refine Rd.tb_ ?_ | with_reducible refine Rd.bl ?_ | with_reducible refine Rd.bl2 ?_ | with_reducible refine Rd.and_ ?_ | with_reducible refine Rd.or_ ?_ | with_reducible refine Rd.not_ ?_ | with_reducible refine Rd.andV ?_ | with_reducible refine Rd.orV ?_ | with_reducible refine Rd.notV ?_ | with_reducible refine Rd.op ?_ | with_reducible refine Rd.un ?_ | with_reducible refine Rd.I0 ?_ | with_reducible refine Rd.U ?_ | with_reducible refine Rd.ip ?_ | with_reducible refine Rd.c_ ?_ | with_reducible refine Rd.nil ?_ | with_reducible refine Rd.cons ?_ | with_reducible refine Rd.call ?_ | with_reducible refine Rd.cb ?_ | with_reducible refine Rd.bm ?_ | with_reducible refine Rd.bm0 ?_ | with_reducible refine Rd.nopart ?_ | with_reducible refine Rd.part ?_ | with_reducible refine Rd.int1 ?_ | with_reducible refine Rd.ints1 ?_ | with_reducible refine Rd.ints2 ?_ | with_reducible refine Rd.gcons ?_ | with_reducible refine Rd.gnil ?_ | with_reducible refine Rd.sub ?_ | with_reducible refine Rd.isN ?_ | with_reducible refine Rd.chain ?_ | with_reducible refine Rd.rf ?_ | with_reducible refine Rd.tyS ?_ | with_reducible refine Rd.intI ?_ | with_reducible refine Rd.lc ?_ | with_reducible refine Rd.for_ ?_ | with_reducible refine Rd.ilist ?_ | with_reducible refine Rd.itup ?_ | with_reducible refine Rd.irng1 ?_ | with_reducible refine Rd.irng2 ?_ | with_reducible refine Rd.ienum ?_ | with_reducible refine Rd.istr ?_ | with_reducible refine Rd.refA ?_ | with_reducible refine Rd.strA ?_ | with_reducible refine Rd.yes ?_ | with_reducible refine Rd.ifT ?_ | with_reducible refine Rd.ifF ?_ | with_reducible refine Rd.ifnT ?_ | with_reducible refine Rd.ifnF ?_ | with_reducible refine Rd.isi_ii ?_ | with_reducible refine Rd.isi_ib ?_ | with_reducible refine Rd.isi_is ?_ | with_reducible refine Rd.isi_il ?_ | with_reducible refine Rd.isi_it ?_ | with_reducible refine Rd.isi_id ?_ | with_reducible refine Rd.isi_bi ?_ | with_reducible refine Rd.isi_bb ?_ | with_reducible refine Rd.isi_bs ?_ | with_reducible refine Rd.isi_bl ?_ | with_reducible refine Rd.isi_bt ?_ | with_reducible refine Rd.isi_bd ?_ | with_reducible refine Rd.isi_si ?_ | with_reducible refine Rd.isi_sb ?_ | with_reducible refine Rd.isi_ss ?_ | with_reducible refine Rd.isi_sl ?_ | with_reducible refine Rd.isi_st ?_ | with_reducible refine Rd.isi_sd ?_ | with_reducible refine Rd.isi_ni ?_ | with_reducible refine Rd.isi_nb ?_ | with_reducible refine Rd.isi_ns ?_ | with_reducible refine Rd.isi_nl ?_ | with_reducible refine Rd.isi_nt ?_ | with_reducible refine Rd.isi_nd ?_ | with_reducible refine Rd.sl ?_ | with_reducible refine Rd.v0 ?_ | with_reducible refine Rd.v1 ?_ | with_reducible refine Rd.v2 ?_ | with_reducible refine Rd.v3 ?_ | with_reducible refine Rd.v4 ?_ | with_reducible refine Rd.v5 ?_ | with_reducible refine Rd.v6 ?_ | with_reducible refine Rd.v7 ?_ | with_reducible refine Rd.v8 ?_ | with_reducible refine Rd.v9 ?_ | with_reducible refine Rd.v10 ?_ | with_reducible refine Rd.v11 ?_ | with_reducible refine Rd.v12 ?_ | with_reducible refine Rd.v13 ?_ | with_reducible refine Rd.v14 ?_ | with_reducible refine Rd.v15 ?_ | with_reducible refine Rd.v16 ?_ | with_reducible refine Rd.v17 ?_ | with_reducible refine Rd.v18 ?_ | with_reducible refine Rd.v19 ?_ | with_reducible refine Rd.v20 ?_ | with_reducible refine Rd.v21 ?_ | with_reducible refine Rd.v22 ?_ | with_reducible refine Rd.v23 ?_ | with_reducible refine Rd.v24 ?_ | with_reducible refine Rd.v25 ?_ | with_reducible refine Rd.v26 ?_ | with_reducible refine Rd.v27 ?_ | with_reducible refine Rd.n0 ?_ | with_reducible refine Rd.n1 ?_ | with_reducible refine Rd.n2 ?_ | with_reducible refine Rd.n3 ?_ | with_reducible refine Rd.n4 ?_ | with_reducible refine Rd.n5 ?_ | with_reducible refine Rd.n6 ?_ | with_reducible refine Rd.n7 ?_ | with_reducible refine Rd.n8 ?_ | with_reducible refine Rd.n9 ?_ | with_reducible refine Rd.n10 ?_ | with_reducible refine Rd.n11 ?_ | with_reducible refine Rd.n12 ?_ | with_reducible refine Rd.n13 ?_ | with_reducible refine Rd.n14 ?_ | with_reducible refine Rd.n15 ?_ | with_reducible refine Rd.n16 ?_ | with_reducible refine Rd.n17 ?_ | with_reducible refine Rd.n18 ?_ | with_reducible refine Rd.n19 ?_ | with_reducible refine Rd.n20 ?_ | with_reducible refine Rd.n21 ?_ | with_reducible refine Rd.n22 ?_ | with_reducible refine Rd.n23 ?_ | with_reducible refine Rd.n24 ?_ | with_reducible refine Rd.n25 ?_ | with_reducible refine Rd.n26 ?_ | with_reducible refine Rd.n27 ?_ | with_reducible refine Rd.g0 ?_ | with_reducible refine Rd.g1 ?_ | with_reducible refine Rd.g2 ?_ | with_reducible refine Rd.g3 ?_ | with_reducible refine Rd.g4 ?_ | with_reducible refine Rd.g5 ?_ | with_reducible refine Rd.g6 ?_ | with_reducible refine Rd.g7 ?_ | with_reducible refine Rd.g8 ?_ | with_reducible refine Rd.g9 ?_ | with_reducible refine Rd.g10 ?_ | with_reducible refine Rd.g11 ?_ | with_reducible refine Rd.g12 ?_ | with_reducible refine Rd.g13 ?_ | with_reducible refine Rd.g14 ?_ | with_reducible refine Rd.g15 ?_ | with_reducible refine Rd.g16 ?_ | with_reducible refine Rd.g17 ?_ | with_reducible refine Rd.g18 ?_ | with_reducible refine Rd.g19 ?_ | with_reducible refine Rd.g20 ?_ | with_reducible refine Rd.g21 ?_ | with_reducible refine Rd.g22 ?_ | with_reducible refine Rd.g23 ?_ | with_reducible refine Rd.g24 ?_ | with_reducible refine Rd.g25 ?_ | with_reducible refine Rd.g26 ?_ | with_reducible refine Rd.g27 ?_ | ((with_reducible refine Rd.eq ?_ ?_); exact rfl) | ((with_reducible refine Rd.ne ?_ ?_); exact rfl) | ((with_reducible refine Rd.szA ?_ ?_); exact Nat.le_of_ble_eq_true rfl) | ((with_reducible refine Rd.I ?_ ?_); first | assumption | decide | exact Or.inr (by decide +kernel) | exact Or.inl (by decide +kernel) | exact ⟨by decide, by decide⟩ | exact ⟨by decide, by decide, by decide⟩ | omega) | ((with_reducible apply Rd.tyL); first | assumption | exact upd_same) | ((with_reducible apply Rd.tyLq); assumption) | ((with_reducible apply Rd.ixL); (first | assumption | exact upd_same); exact rfl) | ((with_reducible apply Rd.ixT); (first | assumption | exact upd_same); exact rfl) | ((with_reducible apply Rd.ixLq); assumption; exact rfl) | ((with_reducible apply Rd.ixTq); assumption; exact rfl) | ((with_reducible apply Rd.gtup); (first | assumption | exact upd_same); exact rfl) | ((with_reducible apply Rd.gtupq); assumption; exact rfl) | ((with_reducible apply Rd.sqAq); assumption) | ((with_reducible apply Rd.stAq); assumption) | ((with_reducible apply Rd.enAq); assumption) | ((with_reducible apply Rd.lenLq); assumption) | ((with_reducible apply Rd.lenTq); assumption) | ((with_reducible apply Rd.sqA); first | assumption | exact upd_same) | ((with_reducible apply Rd.stA); first | assumption | exact upd_same) | ((with_reducible apply Rd.enA); first | assumption | exact upd_same) | ((with_reducible apply Rd.lenL); first | assumption | exact upd_same) | ((with_reducible apply Rd.lenT); first | assumption | exact upd_same) | ((with_reducible refine Rd.nwT ?_ ?_); exact Nat.le_of_ble_eq_true rfl) | ((with_reducible refine Rd.nwL ?_ ?_); exact Nat.le_of_ble_eq_true rfl) | ((with_reducible apply Rd.listOf); assumption) | ((with_reducible apply Rd.listOfq); assumption) | ((with_reducible apply Rd.slo); assumption) | ((with_reducible apply Rd.slq); assumption) | ((with_reducible apply Rd.srtI); assumption) | ((with_reducible apply Rd.srtIo); assumption) | ((with_reducible refine Rd.isi_li (by assumption) ?_)) | ((with_reducible refine Rd.isi_lb (by assumption) ?_)) | ((with_reducible refine Rd.isi_ls (by assumption) ?_)) | ((with_reducible refine Rd.isi_ll (by assumption) ?_)) | ((with_reducible refine Rd.isi_lt (by assumption) ?_)) | ((with_reducible refine Rd.isi_ld (by assumption) ?_)) | ((with_reducible refine Rd.isi_ti (by assumption) ?_)) | ((with_reducible refine Rd.isi_tb (by assumption) ?_)) | ((with_reducible refine Rd.isi_ts (by assumption) ?_)) | ((with_reducible refine Rd.isi_tl (by assumption) ?_)) | ((with_reducible refine Rd.isi_tt (by assumption) ?_)) | ((with_reducible refine Rd.isi_td (by assumption) ?_)))))
def topS (i : Nat) : Stmt := PySem.Challenge.pw_deadbeat_k45_least_window.main.body.getD i (.Pass ⟨0, 0, 0, 0⟩)
abbrev s__times_in : Stmt := topS 2
theorem sc__times_in : FnScope ["window", "every"] ["window", "every"] (defScope s__times_in) := ⟨rfl, rfl, rfl, by decide +kernel, rfl, by decide +kernel, by decide +kernel⟩
abbrev s_demand : Stmt := topS 1
theorem sc_demand : FnScope ["window", "own", "blocked", "above", "releases", "release_cost", "slack", "total", "every", "cost"] ["window", "own", "blocked", "above", "releases", "release_cost", "slack"] (defScope s_demand) := ⟨rfl, rfl, rfl, by decide +kernel, rfl, by decide +kernel, by decide +kernel⟩
abbrev s__needs_all : Stmt := topS 4
theorem sc__needs_all : FnScope ["pairs", "whole", "every", "_", "cost"] ["pairs"] (defScope s__needs_all) := ⟨rfl, rfl, rfl, by decide +kernel, rfl, by decide +kernel, by decide +kernel⟩
abbrev s_response_time : Stmt := topS 3
theorem sc_response_time : FnScope ["limit", "own", "blocked", "above", "releases", "release_cost", "slack", "every", "window", "needed"] ["limit", "own", "blocked", "above", "releases", "release_cost", "slack"] (defScope s_response_time) := ⟨rfl, rfl, rfl, by decide +kernel, rfl, by decide +kernel, by decide +kernel⟩
abbrev s__law_state : Stmt := topS 6
theorem sc__law_state : FnScope ["script", "seed", "cell"] ["script"] (defScope s__law_state) := ⟨rfl, rfl, rfl, by decide +kernel, rfl, by decide +kernel, by decide +kernel⟩
abbrev s__law_draw : Stmt := topS 7
theorem sc__law_draw : FnScope ["state", "many", "cells", "value", "mixed"] ["state", "many"] (defScope s__law_draw) := ⟨rfl, rfl, rfl, by decide +kernel, rfl, by decide +kernel, by decide +kernel⟩
abbrev s__law_up : Stmt := topS 8
theorem sc__law_up : FnScope ["n", "d", "whole"] ["n", "d"] (defScope s__law_up) := ⟨rfl, rfl, rfl, by decide +kernel, rfl, by decide +kernel, by decide +kernel⟩
abbrev s__law_demand : Stmt := topS 9
theorem sc__law_demand : FnScope ["window", "own", "blocked", "above", "releases", "cost", "slack", "total", "pair", "every"] ["window", "own", "blocked", "above", "releases", "cost", "slack"] (defScope s__law_demand) := ⟨rfl, rfl, rfl, by decide +kernel, rfl, by decide +kernel, by decide +kernel⟩
abbrev s__law_every : Stmt := topS 10
theorem sc__law_every : FnScope ["state"] ["state"] (defScope s__law_every) := ⟨rfl, rfl, rfl, by decide +kernel, rfl, by decide +kernel, by decide +kernel⟩
abbrev s__law_due : Stmt := topS 11
theorem sc__law_due : FnScope ["limit", "own", "blocked", "above", "releases", "cost", "slack", "window"] ["limit", "own", "blocked", "above", "releases", "cost", "slack"] (defScope s__law_due) := ⟨rfl, rfl, rfl, by decide +kernel, rfl, by decide +kernel, by decide +kernel⟩
abbrev s_law : Stmt := topS 12
theorem sc_law : FnScope ["script", "state", "limit", "above", "k", "every", "releases", "own", "blocked", "cost", "slack", "due", "scale", "more", "wide", "pair", "times", "numbers", "actual"] ["script"] (defScope s_law) := ⟨rfl, rfl, rfl, by decide +kernel, rfl, by decide +kernel, by decide +kernel⟩
structure Top (K : PySem.W.Frag) (mg : Str → Option Value) where
  a__times_in : Addr
  d__times_in : FuncData
  F__times_in : Fun K "_times_in" "_times_in" s__times_in a__times_in d__times_in
  g__times_in : mg "_times_in" = some (.ref a__times_in)
  b__times_in : Binds K d__times_in ["window", "every"] []
  a_demand : Addr
  d_demand : FuncData
  F_demand : Fun K "demand" "demand" s_demand a_demand d_demand
  g_demand : mg "demand" = some (.ref a_demand)
  b_demand : Binds K d_demand ["window", "own", "blocked", "above", "releases", "release_cost", "slack"] []
  a__needs_all : Addr
  d__needs_all : FuncData
  F__needs_all : Fun K "_needs_all" "_needs_all" s__needs_all a__needs_all d__needs_all
  g__needs_all : mg "_needs_all" = some (.ref a__needs_all)
  b__needs_all : Binds K d__needs_all ["pairs"] []
  a_response_time : Addr
  d_response_time : FuncData
  F_response_time : Fun K "response_time" "response_time" s_response_time a_response_time d_response_time
  g_response_time : mg "response_time" = some (.ref a_response_time)
  b_response_time : Binds K d_response_time ["limit", "own", "blocked", "above", "releases", "release_cost", "slack"] []
  a__law_state : Addr
  d__law_state : FuncData
  F__law_state : Fun K "_law_state" "_law_state" s__law_state a__law_state d__law_state
  g__law_state : mg "_law_state" = some (.ref a__law_state)
  b__law_state : Binds K d__law_state ["script"] []
  a__law_draw : Addr
  d__law_draw : FuncData
  F__law_draw : Fun K "_law_draw" "_law_draw" s__law_draw a__law_draw d__law_draw
  g__law_draw : mg "_law_draw" = some (.ref a__law_draw)
  b__law_draw : Binds K d__law_draw ["state", "many"] []
  a__law_up : Addr
  d__law_up : FuncData
  F__law_up : Fun K "_law_up" "_law_up" s__law_up a__law_up d__law_up
  g__law_up : mg "_law_up" = some (.ref a__law_up)
  b__law_up : Binds K d__law_up ["n", "d"] []
  a__law_demand : Addr
  d__law_demand : FuncData
  F__law_demand : Fun K "_law_demand" "_law_demand" s__law_demand a__law_demand d__law_demand
  g__law_demand : mg "_law_demand" = some (.ref a__law_demand)
  b__law_demand : Binds K d__law_demand ["window", "own", "blocked", "above", "releases", "cost", "slack"] []
  a__law_every : Addr
  d__law_every : FuncData
  F__law_every : Fun K "_law_every" "_law_every" s__law_every a__law_every d__law_every
  g__law_every : mg "_law_every" = some (.ref a__law_every)
  b__law_every : Binds K d__law_every ["state"] []
  a__law_due : Addr
  d__law_due : FuncData
  F__law_due : Fun K "_law_due" "_law_due" s__law_due a__law_due d__law_due
  g__law_due : mg "_law_due" = some (.ref a__law_due)
  b__law_due : Binds K d__law_due ["limit", "own", "blocked", "above", "releases", "cost", "slack"] []
  a_law : Addr
  d_law : FuncData
  F_law : Fun K "law" "law" s_law a_law d_law
  g_law : mg "law" = some (.ref a_law)
  b_law : Binds K d_law ["script"] []
  m_sum : mg "sum" = none
  m_abs : mg "abs" = none
  m_int : mg "int" = none
  m_len : mg "len" = none
  m_range : mg "range" = none
  m_bool : mg "bool" = none
  m_isinstance : mg "isinstance" = none
  m_min : mg "min" = none
/-- the state of the law's draws: the list at p, the cells' list at c -/
def StOk (H : Hp) (p c : Addr) : Prop := ∃ (ms : List Int) (sd : Int), p ≠ c ∧ H p = some (.lst [.ref c, .int sd]) ∧ H c = some (.lst (ms.map V.int)) ∧ ms.length ≤ 63 ∧ (∀ m ∈ ms, 0 ≤ m) ∧ 0 ≤ sd ∧ sd ≤ 2147483647
/-- all but the state is as it was -/
def Keep (p c : Addr) (H H' : Hp) : Prop := ∀ b o, b ≠ p → b ≠ c → H b = some o → H' b = some o
theorem Keep.refl (p c : Addr) (H : Hp) : Keep p c H H := fun _ _ _ _ h => h
theorem Keep.trans {p c : Addr} {H H1 H2 : Hp} (a : Keep p c H H1) (b : Keep p c H1 H2) : Keep p c H H2 := fun x o h1 h2 h => b x o h1 h2 (a x o h1 h2 h)
theorem Keep.same {p c : Addr} {H H1 : Hp} (a : Same H H1) : Keep p c H H1 := fun x o _ _ h => a x o h
theorem Keep.atp {p c : Addr} {H : Hp} {o : HO} : Keep p c H (upd H p o) := fun x u h1 _ h => by
  rw [upd_ne h1]
  exact h
theorem Keep.atc {p c : Addr} {H : Hp} {o : HO} : Keep p c H (upd H c o) := fun x u _ h2 h => by
  rw [upd_ne h2]
  exact h
theorem StOk.same {H H' : Hp} {p c : Addr} (s : StOk H p c) (e : Same H H') : StOk H' p c := by
  obtain ⟨ms, sd, h1, h2, h3, h⟩ := s
  exact ⟨ms, sd, h1, e _ _ h2, e _ _ h3, h⟩
/-- an address that is free behind was free before -/
theorem Keep.free {p c : Addr} {H H' : Hp} (k : Keep p c H H') (s : StOk H' p c) {l : Addr} (h : H' l = Option.none) : H l = Option.none := by
  obtain ⟨ms, sd, h1, h2, h3, _⟩ := s
  cases e : H l with
  | none => rfl
  | some o =>
    have np : l ≠ p := fun z => by rw [z, h2] at h; cases h
    have nc : l ≠ c := fun z => by rw [z, h3] at h; cases h
    rw [k l o np nc e] at h
    cases h
theorem StOk.ne {H : Hp} {p c l : Addr} (s : StOk H p c) (h : H l = Option.none) : l ≠ p ∧ l ≠ c := by
  obtain ⟨ms, sd, h1, h2, h3, _⟩ := s
  exact ⟨fun z => (by rw [z, h2] at h; cases h), fun z => (by rw [z, h3] at h; cases h)⟩
section
variable {P : Program} {w : World} {K : PySem.W.Frag} {mg : Str → Option Value} {base : Heap}
def sp__law_state (K : PySem.W.Frag) : Sp := fun vs H Q _ => ∃ (a : Addr) (ns : List Int), vs = [.ref a] ∧ SqL K H a (ns.map V.int) ∧ ns.length ≤ 63 ∧ ∀ (H' : Hp) (p c : Addr), Same H H' → H p = none → H c = none → StOk H' p c → Q (.ref p) H'
theorem abs_nn (n : Int) : 0 ≤ (if n < 0 then -n else n) := by
  split <;> omega
def absI (n : Int) : Int := if n < 0 then -n else n
theorem ok__law_state (T : Top K mg) : FnOk P w K mg base CX0 1 T.a__law_state T.d__law_state ["script"]  (sp__law_state K) := by
  refine T.F__law_state.ok sc__law_state (fun vs H Q E h => ?_) (fun cdv A outer s H vs Q E hr h => ?_)
  · obtain ⟨_, _, rfl, _⟩ := h
    rfl
  · obtain ⟨a, ns, rfl, hS, hlen, q⟩ := h
    refine ⟨_, (pss_cons (ps_set (i := 1) sc__law_state.nd rfl (by first | exact Or.inl rfl | exact Or.inr rfl) pe_int)
  (pss_cons (ps_for PassesOwn.never rfl (pi_list (pv 0)) (pg_name (i := 2) sc__law_state.nd rfl (by first | exact Or.inl rfl | exact Or.inr rfl))
  (pss_one (ps_set (i := 1) sc__law_state.nd rfl (by first | exact Or.inl rfl | exact Or.inr rfl) (pe_op op_mod (pe_callTy call_int1 (by rfl) T.m_int (by decide +kernel) (pa_cons (pe_op op_add (pe_op op_mul (pv 1) pe_int) (pv 2)) pa_nil)) pe_int))))
  (pss_one (ps_ret (pe_lst (pa_cons (pe_lc (own := [("cell", 2)]) (g := gName 2) (tt := tYes) rfl sc__law_state.nd (pi_list (pv 0)) (blkOk_by (N := ["script", "seed", "cell"]) (sc := defScope s__law_state) (by decide +kernel)) (fun _ _ _ _ _ => pg_name (i := 2) sc__law_state.nd rfl (Or.inl rfl)) (fun _ _ _ _ _ => pts_nil) (fun _ _ _ _ _ => (pe_callB call_abs (by rfl) T.m_abs (by decide +kernel) (pa_cons (pv 2) pa_nil)))) (pa_cons (pe_op op_add (pv 1) pe_int) pa_nil))))))), ?_⟩
    refine ⟨_, rfl, a, rfl, ⟨_, hS⟩, for_list (xs := ns.map V.int) (fun i σ H' => ∃ sd y2, σ = [some (.ref a), some (.int sd), y2] ∧ H' = H ∧ 0 ≤ sd ∧ sd < 1000003) ⟨7, none, rfl, rfl, by decide, by decide⟩ (fun i σ H' _ ⟨_, _, _, e, _⟩ => by rw [e]; exact hS) ?_ ?_⟩
    · rintro i x σ H' hi ⟨sd, y2, rfl, rfl, h0, h1⟩
      obtain ⟨n, _, rfl⟩ := List.mem_map.mp (List.mem_of_getElem? hi)
      refine ⟨_, rfl, _, _, rfl, rfl, .inl ⟨by omega, by omega⟩, _, rfl, _, _, rfl, rfl, .inl ⟨_, rfl, _, _, rfl, rfl, (by show (0 : Int) < 1000003; decide), ?_⟩⟩
      exact ⟨_, _, rfl, rfl, Int.emod_nonneg _ (by decide), Int.emod_lt_of_pos _ (by decide)⟩
    · rintro σ H' ⟨sd, y2, rfl, rfl, h0, h1⟩
      refine ⟨_, rfl, a, rfl, ⟨_, hS⟩, fun c hc => ?_⟩
      refine lc_list (xs := ns.map V.int) (fun i H'' => H'' = upd H' c (.lst ((ns.take i).map fun n => V.int (absI n)))) rfl (fun i H'' _ e => ?_) ?_ ?_
      · rw [e]
        exact (same_new hc).seq hS
      · rintro i x H'' hi rfl
        obtain ⟨n, hn, rfl⟩ : ∃ n, ns[i]? = some n ∧ V.int n = x := by
          rw [List.getElem?_map] at hi
          cases e : ns[i]? with
          | none => rw [e] at hi; cases hi
          | some n => rw [e] at hi; exact ⟨n, rfl, Option.some.inj hi⟩
        refine ⟨rfl, ?_⟩
        refine ⟨_, rfl, _, rfl, _, upd_same, ?_, ?_⟩
        · rw [List.length_map, List.length_take]
          exact small1000 (by omega)
        · rw [upd_upd, List.take_add_one, hn, List.map_append]
          rfl
      · rintro H'' rfl
        rw [List.length_map, List.take_length]
        refine ⟨_, rfl, _, _, rfl, rfl, (by show 2 ≤ sizeLine; decide), fun p hp => ?_⟩
        have npc : p ≠ c := fun z => by rw [z, upd_same] at hp; cases hp
        refine q _ p c ((same_new hc).trans (same_new hp)) ((same_new hc).free hp) hc ⟨ns.map absI, sd + 1, npc, upd_same, ?_, ?_, ?_, by omega, by omega⟩
        · rw [upd_ne npc.symm, upd_same, List.map_map]
          rfl
        · rw [List.length_map]
          exact hlen
        · intro m hm
          obtain ⟨n, _, rfl⟩ := List.mem_map.mp hm
          exact abs_nn n
theorem ix0 {n : Nat} (h : 0 < n) : ixN n 0 = some 0 := by
  unfold ixN
  rw [if_pos (by decide), if_pos (by omega)]
  rfl
theorem seq0 {n : Nat} (h : 0 < n) : seqIndex? 0 n = some 0 := by
  unfold seqIndex?
  simp
  omega
def sp__law_draw : Sp := fun vs H Q _ => ∃ (p c : Addr) (many : Int), vs = [.ref p, .int many] ∧ StOk H p c ∧ 0 < many ∧ many ≤ 1099511627775 ∧ ∀ (v : Int) (H' : Hp), 0 ≤ v → v < many → StOk H' p c → Keep p c H H' → Q (.int v) H'
theorem ok__law_draw (T : Top K mg) : FnOk P w K mg base CX0 1 T.a__law_draw T.d__law_draw ["state", "many"]  sp__law_draw := by
  refine T.F__law_draw.ok sc__law_draw (fun vs H Q E h => ?_) (fun cdv A outer s H vs Q E hr h => ?_)
  · obtain ⟨_, _, _, rfl, _⟩ := h
    rfl
  · obtain ⟨p, c, many, rfl, hst, hm0, hm1, q⟩ := h
    obtain ⟨ms, sd, npc, hp, hc, hl, hn, s0, s1⟩ := hst
    refine ⟨_, (pss_cons (ps_set (i := 2) sc__law_draw.nd rfl (by first | exact Or.inl rfl | exact Or.inr rfl) (pe_ix ix_list (pv 0) pe_int (fun _ _ => rfl)))
  (pss_cons (ps_while PassesOwn.never (pw_and (pt_cmpR op_gt (pe_callB call_len_seq (by rfl) T.m_len PySem.boot_len (pa_cons (pv 2) pa_nil)) pe_int (nomark _)) (pw_and1 (pt_cmpR op_eq (pe_ix ix_list (pv 2) pe_int (fun _ _ => rfl)) pe_int (nomark _)))).pt
  (pss_one (ps_expr (pe_bm PySem.F.plainAttrs_list PySem.F.slot_list_pop PySem.F.type_list_pop mt_popAt (pv 2) (pa_cons pe_int pa_nil)))))
  (pss_cons (ps_if (pt_cmpR op_gt (pe_callB call_len_seq (by rfl) T.m_len PySem.boot_len (pa_cons (pv 2) pa_nil)) pe_int (nomark _))
  (pss_cons (ps_set (i := 3) sc__law_draw.nd rfl (by first | exact Or.inl rfl | exact Or.inr rfl) (pe_ix ix_list (pv 2) pe_int (fun _ _ => rfl)))
  (pss_cons (ps_asg (pe_op op_fdivW (pv 3) (pv 1)) (pg_sub (pv 2) pe_int set_list))
  (pss_one (ps_ret (pe_op op_mod (pe_callTy call_int1 (by rfl) T.m_int (by decide +kernel) (pa_cons (pv 3) pa_nil)) (pv 1))))))
  pss_nil)
  (pss_cons (ps_set (i := 4) sc__law_draw.nd rfl (by first | exact Or.inl rfl | exact Or.inr rfl) (pe_op op_mod (pe_callTy call_int1 (by rfl) T.m_int (by decide +kernel) (pa_cons (pe_op op_add (pe_op op_mul (pe_ix ix_list (pv 0) pe_int (fun _ _ => rfl)) pe_int) pe_int) pa_nil)) pe_int))
  (pss_cons (ps_asg (pv 4) (pg_sub (pv 0) pe_int set_list))
  (pss_one (ps_ret (pe_op op_mod (pe_callTy call_int1 (by rfl) T.m_int (by decide +kernel) (pa_cons (pe_op op_fdivW (pv 4) pe_int) pa_nil)) (pv 1))))))))), ?_⟩
    have hw : many.natAbs < 2 ^ 40 := by omega
    refine ⟨_, rfl, p, _, 0, .ref c, rfl, rfl, SqL.of hp, atI_nat (j := 0) rfl, ?_⟩
    -- the noughts ahead are dropped
    refine ⟨fun m σ H' => ∃ ms' : List Int, m = ms'.length ∧ σ = [some (.ref p), some (.int many), some (.ref c), none, none] ∧ H' = upd H c (.lst (ms'.map V.int)) ∧ ms'.length ≤ 63 ∧ ∀ x ∈ ms', 0 ≤ x,
      ⟨ms.length, ms, rfl, rfl, (upd_self hc).symm, hl, hn⟩, ?_⟩
    rintro m σ H' ⟨ms', rfl, rfl, rfl, hl', hn'⟩
    have hc' : (upd H c (.lst (ms'.map V.int))) c = some (.lst (ms'.map V.int)) := upd_same
    have hp' : (upd H c (.lst (ms'.map V.int))) p = some (.lst [.ref c, .int sd]) := by rw [upd_ne npc]; exact hp
    refine ⟨_, rfl, c, _, rfl, .inl (SqL.of hc'), _, _, rfl, rfl, _, rfl, ?_⟩
    have fin : ∀ (x : Int) (ms2 : List Int) (H2 : Hp), 0 ≤ x → ms2.length ≤ 63 → (∀ y ∈ ms2, 0 ≤ y) → H2 = upd H c (.lst (ms2.map V.int)) → Q (.int (x % many)) H2 := fun x ms2 H2 hx hl2 hn2 e => by
      rw [e]
      exact q _ _ (Int.emod_nonneg _ (by omega)) (Int.emod_lt_of_pos _ hm0) ⟨ms2, sd, npc, by rw [upd_ne npc]; exact hp, upd_same, hl2, hn2, s0, s1⟩ Keep.atc
    cases ms' with
    | nil =>
      refine iteF (iteF ?_)
      refine ⟨_, rfl, c, _, rfl, .inl (SqL.of hc'), _, _, rfl, rfl, _, rfl, iteF ?_⟩
      refine ⟨_, rfl, p, _, 1, .int sd, rfl, rfl, SqL.of hp', atI_nat (j := 1) rfl, _, _, rfl, rfl, .inl ⟨by omega, by omega⟩, _, _, rfl, rfl, .inl ⟨_, rfl, _, _, rfl, rfl, (by show (0 : Int) < 2147483647; decide), ?_⟩⟩
      refine ⟨_, rfl, _, rfl, p, _, 1, 1, rfl, rfl, hp', rfl, ?_⟩
      refine ⟨_, rfl, _, _, rfl, rfl, wide_div (b := 40) (by decide) (by decide) (by decide) (by decide), .inl ⟨_, rfl, _, rfl, _, _, rfl, rfl, hm0, ?_⟩⟩
      have m0 := Int.emod_nonneg (sd * 48271 + 12345) (show (2147483647 : Int) ≠ 0 by decide)
      have m1 := Int.emod_lt_of_pos (sd * 48271 + 12345) (show (0 : Int) < 2147483647 by decide)
      refine q _ _ (Int.emod_nonneg _ (by omega)) (Int.emod_lt_of_pos _ hm0) ⟨[], (sd * 48271 + 12345) % 2147483647, npc, upd_same, ?_, by decide, by simp, m0, by omega⟩ (Keep.atc.trans Keep.atp)
      rw [upd_ne npc.symm]
      exact upd_same
    | cons y r =>
      have hlen : (0 : Int) < ((y :: r).map V.int).length := by rw [List.length_map, List.length_cons]; omega
      rw [decide_eq_true hlen]
      refine iteT ⟨_, rfl, c, _, 0, .int y, rfl, rfl, SqL.of hc', atI_nat (j := 0) rfl, rfl, _, rfl, ite2 (fun cc => ?_) (fun cc => ?_)⟩
      · -- a nought is dropped
        refine ⟨_, fun _ _ z => z, ?_⟩
        refine ⟨_, rfl, .inl ⟨rfl, _, SqL.of hc'⟩, c, _, 0, 0, .int y, rfl, rfl, hc', by decide, by decide, seq0 (by simp), rfl, ?_⟩
        refine ⟨r.length, by simp, r, rfl, rfl, by rw [upd_upd]; rfl, by simp at hl'; omega, fun x hx => hn' x (List.mem_cons_of_mem _ hx)⟩
      · -- the first cell is drawn from
        have y0 := hn' y List.mem_cons_self
        refine ⟨_, rfl, c, _, rfl, .inl (SqL.of hc'), _, _, rfl, rfl, _, rfl, ?_⟩
        rw [decide_eq_true hlen]
        refine iteT ⟨_, rfl, c, _, 0, .int y, rfl, rfl, SqL.of hc', atI_nat (j := 0) rfl, ?_⟩
        refine ⟨_, rfl, _, rfl, _, _, rfl, rfl, wide_div hm0 hw (by decide) (by decide), ?_⟩
        refine ⟨_, rfl, c, _, 0, 0, rfl, rfl, hc', ix0 (by simp), ?_⟩
        refine ⟨_, rfl, .inl ⟨_, rfl, _, rfl, _, _, rfl, rfl, hm0, ?_⟩⟩
        refine fin y (y / many :: r) _ y0 (by simpa using hl') (fun x hx => ?_) (by rw [upd_upd]; rfl)
        rcases List.mem_cons.mp hx with rfl | hx
        · exact Int.ediv_nonneg y0 (by omega)
        · exact hn' x (List.mem_cons_of_mem _ hx)
end

/-- a comprehension over a range whose elements are drawn ints -/
theorem lc_draw {n : Nat} {g : TG} {te : TE} {vs : List Nat} {σ : L2.St} {H1 : Hp} {D p c : Addr} {Qd : Hp → Prop} (G : Int → Prop) (st : StOk H1 p c) (nD : H1 D = none) (hn : n ≤ 90000)
    (hs : ∀ (i : Nat) H (Kt : VK), i < n → StOk H p c → (∀ v H4, G v → StOk H4 p c → Keep p c H H4 → Kt (.int v) H4) → g (.int (i : Int)) (wipe σ vs) H fun σ2 H2 => wipe σ2 vs = wipe σ vs ∧ te σ2 H2 Kt)
    (hd : ∀ H (ns : List Int), ns.length = n → (∀ v ∈ ns, G v) → StOk H p c → Keep p c H1 H → H D = some (.lst (ns.map V.int)) → Qd H) :
    ∃ W : Nat → Nat → Hp → Prop, (∃ m, W 0 m (upd H1 D (.lst []))) ∧ ∀ i m H, W i m H →
      ((Itr 0 n).stop i H ∧ Qd H) ∨ ((Itr 0 n).go i H ∧ ∃ Nx : Hp → Prop, (∀ H', Nx H' → ∃ m', m' < m ∧ W (i + 1) m' H') ∧ ∀ x H', (Itr 0 n).yld i H x H' → g x (wipe σ vs) H' fun σ2 H2 => wipe σ2 vs = wipe σ vs ∧ tYes σ2 H2 fun b H3 =>
        if b = true then te σ2 H3 fun y H4 => ∃ acc, H4 D = some (.lst acc) ∧ acc.length < sizeLine ∧ Nx (upd H4 D (.lst (acc ++ [y]))) else Nx H3) := by
  have pD := st.ne nD
  have stk : ∀ {H H' : Hp} {o : HO}, StOk H' p c → StOk (upd H' D o) p c := fun s => by
    obtain ⟨ms, sd, a, b, d, r⟩ := s
    exact ⟨ms, sd, a, by rw [upd_ne pD.1.symm]; exact b, by rw [upd_ne pD.2.symm]; exact d, r⟩
  refine lc_it walk_range (fun i H => ∃ ns : List Int, ns.length = i ∧ (∀ v ∈ ns, G v) ∧ StOk H p c ∧ Keep p c H1 H ∧ H D = some (.lst (ns.map V.int))) ⟨[], rfl, by simp, stk (H := H1) st, Keep.same (same_new nD), upd_same⟩ (fun _ _ _ _ => trivial) (fun i x H H' hi h y => ?_) (fun H ⟨ns, a, b, d, e, f⟩ => hd H ns a b d e f)
  obtain ⟨ns, ln, gn, s1, k1, hD⟩ := h
  obtain ⟨rfl, e⟩ := Rd.zr y
  subst e
  refine hs i _ _ hi s1 fun v H4 gv s4 k4 => ?_
  have hD4 := k4 _ _ pD.1 pD.2 hD
  refine ⟨_, hD4, Rd.szl (by rw [List.length_map]; omega), ns ++ [v], by simp [ln], fun u m => ?_, stk (H := H4) s4, fun b o n1 n2 h => ?_, by rw [upd_same, List.map_append]; rfl⟩
  · rcases List.mem_append.mp m with m | m
    · exact gn u m
    · rw [List.mem_singleton.mp m]; exact gv
  · have nb : b ≠ D := fun z => by rw [z, nD] at h; cases h
    rw [upd_ne nb]
    exact k4 b o n1 n2 (k1 b o n1 n2 h)

/-! ### deadbeat.response: the demand of a window -/
/-- a list of pairs of ints -/
def Prs (K : PySem.W.Frag) (H : Hp) (a : Addr) (ps : List (Int × Int)) : Prop := ∃ vs, SqL K H a vs ∧ vs.length = ps.length ∧ ∀ (i : Nat) p, ps[i]? = some p → ∃ t, vs[i]? = some (.ref t) ∧ SqT K H t [.int p.1, .int p.2]
theorem Prs.same {K : PySem.W.Frag} {H H' : Hp} {a : Addr} {ps : List (Int × Int)} (h : Prs K H a ps) (s : Same H H') : Prs K H' a ps := by
  obtain ⟨vs, h1, h2, h3⟩ := h
  exact ⟨vs, s.seq h1, h2, fun i p e => let ⟨t, x, y⟩ := h3 i p e; ⟨t, x, s.seqT y⟩⟩
section
variable {P : Program} {w : World} {K : PySem.W.Frag} {mg : Str → Option Value} {base : Heap}
def sp__times_in : Sp := fun vs H Q _ => ∃ (n d : Int), vs = [.int n, .int d] ∧ 0 < d ∧ d < 1099511627776 ∧ Q (.int (upI n d)) H
theorem ok__times_in (T : Top K mg) : FnOk P w K mg base CX0 1 T.a__times_in T.d__times_in ["window", "every"]  sp__times_in := by
  refine T.F__times_in.ok sc__times_in (fun vs H Q E h => ?_) (fun cdv A outer s H vs Q E hr h => ?_)
  · obtain ⟨_, _, rfl, _⟩ := h
    rfl
  · obtain ⟨n, d, rfl, h0, h1, q⟩ := h
    refine ⟨_, (pss_one (ps_ret (pe_un un_neg (pe_op op_fdivW (pe_un un_neg (pv 0)) (pv 1))))), ?_⟩
    rw [show ∀ a0 a1 : V, L2.start ["window", "every"] [a0, a1] = [some a0, some a1] from fun _ _ => rfl]
    walk_at "my rn"
    refine Rd.I (wide_div (b := 40) h0 (by omega) (by decide) (by decide)) ?_
    walk_at "my rn"
    exact q
def sp_demand (K : PySem.W.Frag) : Sp := fun vs H Q _ => ∃ (n o b c s : Int) (A R : Addr) (ps : List (Int × Int)) (es : List Int), vs = [.int n, .int o, .int b, .ref A, .ref R, .int c, .int s] ∧
  Prs K H A ps ∧ SqL K H R (es.map V.int) ∧ (∀ p ∈ ps, 0 < p.1 ∧ p.1 < 1099511627776 ∧ 0 ≤ p.2 ∧ p.2 < 2 ^ 62) ∧ (∀ e ∈ es, 0 < e ∧ e < 1099511627776) ∧ 0 ≤ c ∧ c < 2 ^ 62 ∧ Q (.int (dmI n o b ps es c s)) H
theorem ok_demand (T : Top K mg) : FnOk P w K mg base CX0 2 T.a_demand T.d_demand ["window", "own", "blocked", "above", "releases", "release_cost", "slack"]  (sp_demand K) := by
  refine T.F_demand.ok sc_demand (fun vs H Q E h => ?_) (fun cdv A outer s H vs Q E hr h => ?_)
  · obtain ⟨_, _, _, _, _, _, _, _, _, rfl, _⟩ := h
    rfl
  · obtain ⟨n, o, b, c, s, A, R, ps, es, rfl, hA, hR, hp, he, c0, c1, q⟩ := h
    obtain ⟨vs, hA1, hA2, hA3⟩ := hA
    refine ⟨_, (pss_cons (ps_set (i := 7) sc_demand.nd rfl (by first | exact Or.inl rfl | exact Or.inr rfl) (pe_op op_add (pv 1) (pv 2)))
  (pss_cons (ps_for PassesOwn.never rfl (pi_list (pv 3)) (pg_tup rfl (pgs_cons (pg_name (i := 8) sc_demand.nd rfl (by first | exact Or.inl rfl | exact Or.inr rfl)) (pgs_cons (pg_name (i := 9) sc_demand.nd rfl (by first | exact Or.inl rfl | exact Or.inr rfl)) pgs_nil)))
  (pss_one (ps_aug (i := 7) sc_demand.nd rfl (by first | exact Or.inl rfl | exact Or.inr rfl) (pe_op op_mul (pv 9) (pe_call (ok__times_in T) (hr.mono (by decide)) (by rfl) T.g__times_in T.F__times_in.kp T.b__times_in .nil pass0 (pa_cons (pv 0) (pa_cons (pv 8) pa_nil)))) ip_add)))
  (pss_cons (ps_for PassesOwn.never rfl (pi_list (pv 4)) (pg_name (i := 8) sc_demand.nd rfl (by first | exact Or.inl rfl | exact Or.inr rfl))
  (pss_one (ps_aug (i := 7) sc_demand.nd rfl (by first | exact Or.inl rfl | exact Or.inr rfl) (pe_op op_mul (pv 5) (pe_call (ok__times_in T) (hr.mono (by decide)) (by rfl) T.g__times_in T.F__times_in.kp T.b__times_in .nil pass0 (pa_cons (pe_op op_add (pv 0) (pv 6)) (pa_cons (pv 8) pa_nil)))) ip_add)))
  (pss_one (ps_ret (pv 7)))))), ?_⟩
    rw [show ∀ a0 a1 a2 a3 a4 a5 a6 : V, L2.start ["window", "own", "blocked", "above", "releases", "release_cost", "slack", "total", "every", "cost"] [a0, a1, a2, a3, a4, a5, a6] = [some a0, some a1, some a2, some a3, some a4, some a5, some a6, none, none, none] from fun _ _ _ _ _ _ _ => rfl]
    walk_at "my rn"
    refine for_it (walk_list (xs := vs)) (fun i σ H' => H' = H ∧ ∃ y8 y9, σ = [some (.int n), some (.int o), some (.int b), some (.ref A), some (.ref R), some (.int c), some (.int s), some (.int (o + b + sA n (ps.take i))), y8, y9]) ⟨rfl, none, none, by simp [sA]⟩ (fun i σ H' _ h => by rw [h.1]; exact hA1) ?_ ?_
    · rintro i x σ H' H'' hi ⟨rfl, y8, y9, rfl⟩ ⟨rfl, hx⟩
      obtain ⟨p, hpi⟩ : ∃ p, ps[i]? = some p := ⟨_, List.getElem?_eq_getElem (by omega)⟩
      obtain ⟨t, ht, hT⟩ := hA3 i p hpi
      have hb := hp p (List.mem_of_getElem? hpi)
      rw [ht] at hx
      cases hx
      refine Rd.gtupq hT rfl ?_
      walk_at "my rn"
      refine ⟨_, _, rfl, hb.1, hb.2.1, ?_⟩
      refine Rd.I (Or.inl ⟨by omega, by omega⟩) ?_
      walk_at "my rn"
      exact ⟨_, _, by rw [sA_add hpi, Int.add_assoc (o + b)]⟩
    · rintro σ H' ⟨rfl, y8, y9, rfl⟩
      walk_at "my rn"
      refine for_it (walk_list (xs := es.map V.int)) (fun i σ H'' => H'' = H' ∧ ∃ y8 y9, σ = [some (.int n), some (.int o), some (.int b), some (.ref A), some (.ref R), some (.int c), some (.int s), some (.int (o + b + sA n ps + sR (n + s) c (es.take i))), y8, y9]) ⟨rfl, y8, y9, by simp [sR, hA2]⟩ (fun i σ H' _ h => by rw [h.1]; exact hR) ?_ ?_
      · rintro i x σ H1 H2 hi ⟨rfl, y8, y9, rfl⟩ ⟨rfl, hx⟩
        rw [List.getElem?_map] at hx
        obtain ⟨e, hei, rfl⟩ : ∃ e, es[i]? = some e ∧ V.int e = x := by
          cases z : es[i]? with
          | none => rw [z] at hx; cases hx
          | some e => rw [z] at hx; exact ⟨e, rfl, Option.some.inj hx⟩
        have hb := he e (List.mem_of_getElem? hei)
        walk_at "my rn"
        refine ⟨_, _, rfl, hb.1, hb.2, ?_⟩
        refine Rd.I (Or.inl ⟨by omega, by omega⟩) ?_
        walk_at "my rn"
        exact ⟨_, _, by rw [sR_add hei, Int.add_assoc (o + b + sA n ps)]⟩
      · rintro σ H1 ⟨rfl, y8, y9, rfl⟩
        walk_at "my rn"
        rw [List.length_map, List.take_length]
        exact q
end

/-- a list of pairs made since H0 -/
def PrsN (H0 H : Hp) (A : Addr) (ps : List (Int × Int)) : Prop := ∃ vs, H A = some (.lst vs) ∧ vs.length = ps.length ∧ ∀ (i : Nat) q, ps[i]? = some q → ∃ t, vs[i]? = some (.ref t) ∧ H t = some (.tup [.int q.1, .int q.2]) ∧ H0 t = none ∧ t ≠ A
theorem PrsN.keep {H0 H H' : Hp} {A : Addr} {ps : List (Int × Int)} (h : PrsN H0 H A ps) (nA : H0 A = none) (k : ∀ b o, H0 b = none → H b = some o → H' b = some o) : PrsN H0 H' A ps := by
  obtain ⟨vs, a, b, d⟩ := h
  exact ⟨vs, k _ _ nA a, b, fun i q e => let ⟨t, x, y, z, u⟩ := d i q e; ⟨t, x, k _ _ z y, z, u⟩⟩
theorem PrsN.prs {K : PySem.W.Frag} {H0 H : Hp} {A : Addr} {ps : List (Int × Int)} (h : PrsN H0 H A ps) : Prs K H A ps := by
  obtain ⟨vs, a, b, d⟩ := h
  exact ⟨vs, SqL.of a, b, fun i q e => let ⟨t, x, y, _, _⟩ := d i q e; ⟨t, x, SqT.of y⟩⟩
theorem PrsN.push {H0 H : Hp} {A t : Addr} {ps : List (Int × Int)} {q : Int × Int} {vs : List V} (h : PrsN H0 H A ps) (hv : H A = some (.lst vs)) (ht : H t = some (.tup [.int q.1, .int q.2])) (nt : H0 t = none) (tA : t ≠ A) : PrsN H0 (upd H A (.lst (vs ++ [.ref t]))) A (ps ++ [q]) := by
  obtain ⟨vs', a, b, d⟩ := h
  rw [hv] at a
  cases a
  refine ⟨_, upd_same, by simp [b], fun i r e => ?_⟩
  by_cases hi : i < ps.length
  · rw [List.getElem?_append_left hi] at e
    obtain ⟨u, x, y, z, w⟩ := d i r e
    exact ⟨u, by rw [List.getElem?_append_left (by omega)]; exact x, by rw [upd_ne w]; exact y, z, w⟩
  · have ei : i = ps.length := by
      have := (List.getElem?_eq_some_iff.mp e).1
      simp at this; omega
    subst ei
    rw [List.getElem?_append_right (Nat.le_refl _)] at e
    simp at e
    subst e
    exact ⟨t, by rw [List.getElem?_append_right (by omega), b]; simp, by rw [upd_ne tA]; exact ht, nt, tA⟩
/-- what the state's draws keep: all that is not in H0 -/
theorem keep_new {H0 H H' : Hp} {p c : Addr} (st : StOk H0 p c) (k : Keep p c H H') : ∀ b o, H0 b = none → H b = some o → H' b = some o := fun b o n h => by
  obtain ⟨h1, h2⟩ := st.ne n
  exact k b o h1 h2 h

theorem vals_of {α : Type} {qs : List α} {ns : List V} (g : α → Int) (ln : ns.length = qs.length) (hn : ∀ (i : Nat) v, ns[i]? = some v → ∀ q, qs[i]? = some q → v = .int (g q)) : ns = (qs.map g).map V.int := by
  refine List.ext_getElem? fun i => ?_
  rw [List.map_map, List.getElem?_map]
  by_cases hi : i < qs.length
  · obtain ⟨v, hv⟩ : ∃ v, ns[i]? = some v := ⟨_, List.getElem?_eq_getElem (by omega)⟩
    obtain ⟨q, hq⟩ : ∃ q, qs[i]? = some q := ⟨_, List.getElem?_eq_getElem hi⟩
    rw [hv, hq, hn i v hv q hq]
    rfl
  · rw [List.getElem?_eq_none (by omega), List.getElem?_eq_none (by omega)]
    rfl
section
variable {P : Program} {w : World} {K : PySem.W.Frag} {mg : Str → Option Value} {base : Heap}
def sp__needs_all (K : PySem.W.Frag) : Sp := fun vs H Q _ => ∃ (A : Addr) (ps : List (Int × Int)), vs = [.ref A] ∧ Prs K H A ps ∧ ps.length ≤ 1000 ∧ (∀ p ∈ ps, 0 < p.1 ∧ p.1 < 1099511627776 ∧ 0 ≤ p.2 ∧ p.2 < 2 ^ 62) ∧
  ∀ H', Same H H' → Q (.bl (decide (ndI (prI ps) ps ≥ prI ps))) H'
theorem ok__needs_all (T : Top K mg) : FnOk P w K mg base CX0 1 T.a__needs_all T.d__needs_all ["pairs"]  (sp__needs_all K) := by
  refine T.F__needs_all.ok sc__needs_all (fun vs H Q E h => ?_) (fun cdv A outer s H vs Q E hr h => ?_)
  · obtain ⟨_, _, rfl, _⟩ := h
    rfl
  · obtain ⟨A, ps, rfl, hA, hl, hp, q⟩ := h
    have hAA := hA
    obtain ⟨vs, hA1, hA2, hA3⟩ := hA
    refine ⟨_, (pss_cons (ps_set (i := 1) sc__needs_all.nd rfl (by first | exact Or.inl rfl | exact Or.inr rfl) pe_int)
  (pss_cons (ps_for PassesOwn.never rfl (pi_list (pv 0)) (pg_tup rfl (pgs_cons (pg_name (i := 2) sc__needs_all.nd rfl (by first | exact Or.inl rfl | exact Or.inr rfl)) (pgs_cons (pg_name (i := 3) sc__needs_all.nd rfl (by first | exact Or.inl rfl | exact Or.inr rfl)) pgs_nil)))
  (pss_one (ps_set (i := 1) sc__needs_all.nd rfl (by first | exact Or.inl rfl | exact Or.inr rfl) (pe_op op_mul (pv 1) (pv 2)))))
  (pss_one (ps_ret (pe_cmpR op_ge (pe_callB (cr_sum rfl) (by rfl) T.m_sum (by decide +kernel) (pa_cons (pe_lc (own := [("every", 2), ("cost", 4)]) (g := (gTup K 2 (gCons (gName 2) (gCons (gName 4) gNil)))) (tt := tYes) rfl sc__needs_all.nd (pi_list (pv 0)) (blkOk_by (N := ["pairs", "whole", "every", "_", "cost"]) (sc := defScope s__needs_all) (by decide +kernel)) (fun _ _ _ _ _ => (pg_tup rfl (pgs_cons (pg_name (i := 2) sc__needs_all.nd rfl (Or.inl rfl)) (pgs_cons (pg_name (i := 4) sc__needs_all.nd rfl (Or.inl rfl)) pgs_nil)))) (fun _ _ _ _ _ => pts_nil) (fun _ _ _ _ _ => (pe_op op_mul (pv 4) (pe_op op_fdivW (pv 1) (pv 2))))) pa_nil)) (pv 1) (nomark _)))))), ?_⟩
    rw [show ∀ a0 : V, L2.start ["pairs", "whole", "every", "_", "cost"] [a0] = [some a0, none, none, none, none] from fun _ => rfl]
    walk_at "my rn"
    refine for_it (walk_list (xs := vs)) (fun i σ H' => H' = H ∧ ∃ y2 y3, σ = [some (.ref A), some (.int (prI (ps.take i))), y2, y3, none]) ⟨rfl, none, none, rfl⟩ (fun i σ H' _ h => by rw [h.1]; exact hA1) ?_ ?_
    · rintro i x σ H' H'' hi ⟨rfl, y8, y9, rfl⟩ ⟨rfl, hx⟩
      obtain ⟨p, hpi⟩ : ∃ p, ps[i]? = some p := ⟨_, List.getElem?_eq_getElem (by omega)⟩
      obtain ⟨t, ht, hT⟩ := hA3 i p hpi
      have hb := hp p (List.mem_of_getElem? hpi)
      rw [ht] at hx
      cases hx
      refine Rd.gtupq hT rfl ?_
      walk_at "my rn"
      refine Rd.I (Or.inr ⟨by omega, by omega⟩) ?_
      walk_at "my rn"
      exact ⟨_, _, by rw [prI_add hpi]⟩
    · rintro σ H' ⟨rfl, y8, y9, rfl⟩
      rw [hA2, List.take_length]
      walk_at "my rn"
      intro D nD
      refine Rd.lc_rel (walk_list (xs := vs)) (fun i v _ => ∀ q, ps[i]? = some q → v = .int (q.2 * (prI ps / q.1))) nD (by omega) (fun _ _ _ _ h _ => h) (fun H b => (b.to nD).seq hA1) (fun i x H3 H4 Kt hi b hDl y kt => ?_) (fun H5 ms lm hm s5 hD5 => ?_)
      · obtain ⟨rfl, hx⟩ := y
        obtain ⟨p, hpi⟩ : ∃ p, ps[i]? = some p := ⟨_, List.getElem?_eq_getElem (by omega)⟩
        obtain ⟨t, ht, hT⟩ := hA3 i p hpi
        have hb := hp p (List.mem_of_getElem? hpi)
        rw [ht] at hx
        cases hx
        simp only [List.map_cons, List.map_nil, L2.wipe, List.set_cons_succ, List.set_cons_zero]
        refine Rd.gtupq ((b.to nD).seqT hT) rfl ?_
        walk_at "my rn"
        refine ⟨rfl, ?_⟩
        walk_at "my rn"
        refine Rd.I (wide_div (b := 40) hb.1 (by omega) (by decide) (by decide)) ?_
        refine Rd.I (Or.inl ⟨by omega, by omega⟩) ?_
        refine kt _ _ (fun q e => ?_) (Same.refl _)
        rw [hpi] at e
        cases e
        rfl
      · have em := vals_of (fun q : Int × Int => q.2 * (prI ps / q.1)) (by omega) hm
        subst em
        walk_at "my rn"
        refine ⟨_, _, rfl, SqL.of hD5, ?_⟩
        walk_at "my rn"
        exact q _ s5
/-- a list of pairs of ints, as a list that is no constant -/
def PrsL (K : PySem.W.Frag) (H : Hp) (a : Addr) (ps : List (Int × Int)) : Prop := ∃ vs, H a = some (.lst vs) ∧ vs.length = ps.length ∧ ∀ (i : Nat) p, ps[i]? = some p → ∃ t, vs[i]? = some (.ref t) ∧ SqT K H t [.int p.1, .int p.2]
theorem PrsL.prs {K : PySem.W.Frag} {H : Hp} {a : Addr} {ps : List (Int × Int)} (h : PrsL K H a ps) : Prs K H a ps := by
  obtain ⟨vs, x, y⟩ := h
  exact ⟨vs, SqL.of x, y⟩
def sp_response_time (K : PySem.W.Frag) : Sp := fun vs H Q _ => ∃ (lim o b c s : Int) (A R : Addr) (ps : List (Int × Int)) (es : List Int), vs = [.int lim, .int o, .int b, .ref A, .ref R, .int c, .int s] ∧
  PrsL K H A ps ∧ SqL K H R (es.map V.int) ∧ ps.length ≤ 100 ∧ es.length ≤ 100 ∧ (∀ p ∈ ps, 0 < p.1 ∧ p.1 < 1099511627776 ∧ 0 ≤ p.2 ∧ p.2 < 2 ^ 62) ∧ (∀ e ∈ es, 0 < e ∧ e < 1099511627776) ∧ 0 ≤ c ∧ c < 2 ^ 62 ∧ 0 < o ∧ 0 ≤ b ∧ 0 ≤ s ∧ 0 ≤ lim ∧
  ∀ v H', Same H H' → Lst (fun w => dmI w o b ps es c s) lim v → Q v H'
theorem ok_response_time (T : Top K mg) : FnOk P w K mg base CX0 3 T.a_response_time T.d_response_time ["limit", "own", "blocked", "above", "releases", "release_cost", "slack"]  (sp_response_time K) := by
  refine T.F_response_time.ok sc_response_time (fun vs H Q E h => ?_) (fun cdv A outer s H vs Q E hr h => ?_)
  · obtain ⟨_, _, _, _, _, _, _, _, _, rfl, _⟩ := h
    rfl
  · obtain ⟨lim, o, b, c, s, A, R, ps, es, rfl, hA, hR, lps, les, hp, he, c0, c1, o0, b0, s0, l0, q⟩ := h
    obtain ⟨vs, hA1, hA2, hA3⟩ := id hA
    refine ⟨_, (pss_cons (ps_if (pt_val (pe_call (ok__needs_all T) (hr.mono (by decide)) (by rfl) T.g__needs_all T.F__needs_all.kp T.b__needs_all .nil pass0 (pa_cons (pe_op op_cat (pv 3) (pe_lc (own := [("every", 7)]) (g := gName 7) (tt := tYes) rfl sc_response_time.nd (pi_list (pv 4)) (blkOk_by (N := ["limit", "own", "blocked", "above", "releases", "release_cost", "slack", "every", "window", "needed"]) (sc := defScope s_response_time) (by decide +kernel)) (fun _ _ _ _ _ => pg_name (i := 7) sc_response_time.nd rfl (Or.inl rfl)) (fun _ _ _ _ _ => pts_nil) (fun _ _ _ _ _ => (pe_tup (pa_cons (pv 7) (pa_cons (pv 5) pa_nil)))))) pa_nil)))
  (pss_one (ps_ret pe_non))
  pss_nil)
  (pss_cons (ps_set (i := 8) sc_response_time.nd rfl (by first | exact Or.inl rfl | exact Or.inr rfl) pe_int)
  (pss_cons (ps_while PassesOwn.never (pt_cmpR op_le (pv 8) (pv 0) (nomark _))
  (pss_cons (ps_set (i := 9) sc_response_time.nd rfl (by first | exact Or.inl rfl | exact Or.inr rfl) (pe_call (ok_demand T) (hr.mono (by decide)) (by rfl) T.g_demand T.F_demand.kp T.b_demand .nil pass0 (pa_cons (pv 8) (pa_cons (pv 1) (pa_cons (pv 2) (pa_cons (pv 3) (pa_cons (pv 4) (pa_cons (pv 5) (pa_cons (pv 6) pa_nil)))))))))
  (pss_cons (ps_if (pt_cmpR op_le (pv 9) (pv 8) (nomark _))
  (pss_one (ps_ret (pv 8)))
  pss_nil)
  (pss_one (ps_set (i := 8) sc_response_time.nd rfl (by first | exact Or.inl rfl | exact Or.inr rfl) (pv 9))))))
  (pss_one (ps_ret pe_non))))), ?_⟩
    rw [show ∀ a0 a1 a2 a3 a4 a5 a6 : V, L2.start ["limit", "own", "blocked", "above", "releases", "release_cost", "slack", "every", "window", "needed"] [a0, a1, a2, a3, a4, a5, a6] = [some a0, some a1, some a2, some a3, some a4, some a5, some a6, none, none, none] from fun _ _ _ _ _ _ _ => rfl]
    walk_at "my rn"
    intro D nD
    refine Rd.lc_rel (walk_list (xs := es.map V.int)) (fun i v H => ∃ t e, v = .ref t ∧ t ≠ D ∧ es[i]? = some e ∧ H t = some (.tup [.int e, .int c])) nD (by rw [List.length_map]; omega) (fun i v _ _ ⟨t, e, h1, n, h2, h3⟩ b => ⟨t, e, h1, n, h2, b _ _ n h3⟩) (fun H b => (b.to nD).seq hR) (fun i x H3 H4 Kt hi b hDl y kt => ?_) (fun H5 ms lm hm s5 hD5 => ?_)
    · obtain ⟨rfl, hx⟩ := y
      rw [List.getElem?_map] at hx
      obtain ⟨e, hei, rfl⟩ : ∃ e, es[i]? = some e ∧ V.int e = x := by
        cases z : es[i]? with
        | none => rw [z] at hx; cases hx
        | some e => rw [z] at hx; exact ⟨e, rfl, Option.some.inj hx⟩
      simp only [List.map_cons, List.map_nil, L2.wipe, List.set_cons_succ, List.set_cons_zero]
      walk_at "my rn"
      refine ⟨rfl, ?_⟩
      walk_at "my rn"
      intro t H5 nt s5 ht
      obtain ⟨xsD, hxD⟩ := hDl
      exact kt _ _ ⟨t, e, rfl, fun z => (by rw [z, hxD] at nt; cases nt), hei, ht⟩ s5
    · have lm2 : ms.length = es.length := by rw [lm, List.length_map]
      walk_at "my rn"
      refine Rd.cat (s5 _ _ hA1) hD5 (by omega) fun S H6 nS s6 hS => ?_
      have hall : Prs K H6 S (ps ++ pairs es c) := by
        refine ⟨_, SqL.of hS, by simp [pairs, hA2, lm2], fun i p e => ?_⟩
        by_cases hi : i < ps.length
        · rw [List.getElem?_append_left hi] at e
          obtain ⟨t, x, y⟩ := hA3 i p e
          exact ⟨t, by rw [List.getElem?_append_left (by omega)]; exact x, (s5.trans s6).seqT y⟩
        · rw [List.getElem?_append_right (by omega)] at e
          unfold pairs at e
          rw [List.getElem?_map] at e
          cases z : es[i - ps.length]? with
          | none => rw [z] at e; cases e
          | some k =>
            rw [z] at e
            cases e
            have hlt := (List.getElem?_eq_some_iff.mp z).1
            obtain ⟨v, hv⟩ : ∃ v, ms[i - ps.length]? = some v := ⟨_, List.getElem?_eq_getElem (by omega)⟩
            obtain ⟨t, e2, rfl, _, h2, h3⟩ := hm _ v hv
            rw [z] at h2
            cases h2
            exact ⟨t, by rw [List.getElem?_append_right (by omega), hA2]; exact hv, SqT.of (s6 _ _ h3)⟩
      have hbb : ∀ p ∈ ps ++ pairs es c, 0 < p.1 ∧ p.1 < 1099511627776 ∧ 0 ≤ p.2 ∧ p.2 < 2 ^ 62 := fun p m => by
        rcases List.mem_append.mp m with m | m
        · exact hp p m
        · obtain ⟨x, hx, rfl⟩ := List.mem_map.mp m
          exact ⟨(he x hx).1, (he x hx).2, c0, c1⟩
      refine ⟨S, ps ++ pairs es c, rfl, hall, by simp [pairs]; omega, hbb, fun H7 s7 => ?_⟩
      have s07 := s5.trans (s6.trans s7)
      walk_at "my rn"
      refine Rd.ifD (fun cn => ?_) (fun cn => ?_)
      · walk_at "my rn"
        refine q _ _ s07 (.inr ⟨rfl, fun u u1 _ => needs_all (fun p m => ⟨(hp p m).1, (hp p m).2.2.1⟩) (fun e m => (he e m).1) c0 o0 b0 s0 (by omega) cn⟩)
      · walk_at "my rn"
        refine ⟨fun m σ H' => ∃ (w : Int) (y9 : Option V), m = (lim + 1 - w).toNat ∧ σ = [some (.int lim), some (.int o), some (.int b), some (.ref A), some (.ref R), some (.int c), some (.int s), none, some (.int w), y9] ∧ H' = H7 ∧ 1 ≤ w ∧ ∀ u, 1 ≤ u → u < w → u < dmI u o b ps es c s,
          ⟨_, 1, none, rfl, rfl, rfl, by decide, fun u h1 h2 => by omega⟩, ?_⟩
        rintro m σ H' ⟨wn, y9, rfl, rfl, rfl, w1, hw⟩
        walk_at "my rn"
        refine Rd.ifD (fun cl => ?_) (fun cl => ?_)
        · walk_at "my rn"
          refine ⟨_, fun _ _ z => z, ?_⟩
          walk_at "my rn"
          refine ⟨_, _, _, _, _, A, R, ps, es, rfl, hA.prs.same s07, s07.seq hR, hp, he, c0, c1, ?_⟩
          walk_at "my rn"
          refine Rd.ifD (fun cd => ?_) (fun cd => ?_)
          · walk_at "my rn"
            exact q _ _ s07 (.inl ⟨wn, rfl, w1, cl, cd, hw⟩)
          · walk_at "my rn"
            refine ⟨_, ?_, _, _, rfl, rfl, rfl, by omega, fun u h1 h2 => ?_⟩
            · omega
            · rcases Int.lt_or_le u wn with h3 | h3
              · exact hw u h1 h3
              · have := dm_mono (o := o) (b := b) (c := c) (s := s) (ps := ps) (es := es) (fun p m => ⟨(hp p m).1, (hp p m).2.2.1⟩) (fun e m => (he e m).1) c0 h3
                omega
        · walk_at "my rn"
          exact q _ _ s07 (.inr ⟨rfl, fun u h1 h2 => hw u h1 (by omega)⟩)
end


section
variable {P : Program} {w : World} {K : PySem.W.Frag} {mg : Str → Option Value} {base : Heap}
theorem up_eq {n d : Int} (h : 0 < d) : (if n / d * d < n then n / d + 1 else n / d) = upI n d := by
  unfold upI
  have e1 := Int.mul_ediv_add_emod n d
  have e2 := Int.emod_nonneg n (show d ≠ 0 by omega)
  have e3 := Int.emod_lt_of_pos n h
  have c1 : d * (n / d) = n / d * d := Int.mul_comm _ _
  split
  · rename_i c
    have : -n / d = -(n / d + 1) := by
      rw [Int.ediv_eq_iff_of_pos h, Int.neg_mul, Int.add_mul]
      omega
    omega
  · rename_i c
    have : -n / d = -(n / d) := by
      rw [Int.ediv_eq_iff_of_pos h, Int.neg_mul]
      omega
    omega
def sp__law_up : Sp := fun vs H Q _ => ∃ (n d : Int), vs = [.int n, .int d] ∧ 0 < d ∧ d < 1099511627776 ∧ Q (.int (upI n d)) H
theorem ok__law_up (T : Top K mg) : FnOk P w K mg base CX0 1 T.a__law_up T.d__law_up ["n", "d"]  sp__law_up := by
  refine T.F__law_up.ok sc__law_up (fun vs H Q E h => ?_) (fun cdv A outer s H vs Q E hr h => ?_)
  · obtain ⟨_, _, rfl, _⟩ := h
    rfl
  · obtain ⟨n, d, rfl, h0, h1, q⟩ := h
    refine ⟨_, (pss_cons (ps_set (i := 2) sc__law_up.nd rfl (by first | exact Or.inl rfl | exact Or.inr rfl) (pe_op op_fdivW (pv 0) (pv 1)))
  (pss_cons (ps_if (pt_cmpR op_lt (pe_op op_mul (pv 2) (pv 1)) (pv 0) (nomark _))
  (pss_one (ps_ret (pe_op op_add (pv 2) pe_int)))
  pss_nil)
  (pss_one (ps_ret (pv 2))))), ?_⟩
    rw [show ∀ a0 a1 : V, L2.start ["n", "d", "whole"] [a0, a1] = [some a0, some a1, none] from fun _ _ => rfl]
    walk_at "my rn"
    refine Rd.I (wide_div (b := 40) h0 (by omega) (by decide) (by decide)) ?_
    walk_at "my rn"
    refine Rd.I (Or.inr ⟨by omega, by omega⟩) ?_
    walk_at "my rn"
    have e := up_eq (n := n) h0
    refine Rd.ifD (fun cc => ?_) (fun cc => ?_)
    · rw [if_pos cc] at e
      walk_at "my rn"
      rw [e]
      exact q
    · rw [if_neg cc] at e
      walk_at "my rn"
      rw [e]
      exact q
def sp__law_demand (K : PySem.W.Frag) : Sp := fun vs H Q _ => ∃ (n o b c s : Int) (A R : Addr) (ps : List (Int × Int)) (es : List Int), vs = [.int n, .int o, .int b, .ref A, .ref R, .int c, .int s] ∧
  Prs K H A ps ∧ SqL K H R (es.map V.int) ∧ (∀ p ∈ ps, 0 < p.1 ∧ p.1 < 1099511627776 ∧ 0 ≤ p.2 ∧ p.2 < 2 ^ 62) ∧ (∀ e ∈ es, 0 < e ∧ e < 1099511627776) ∧ 0 ≤ c ∧ c < 2 ^ 62 ∧ Q (.int (dmI n o b ps es c s)) H
theorem ok__law_demand (T : Top K mg) : FnOk P w K mg base CX0 2 T.a__law_demand T.d__law_demand ["window", "own", "blocked", "above", "releases", "cost", "slack"]  (sp__law_demand K) := by
  refine T.F__law_demand.ok sc__law_demand (fun vs H Q E h => ?_) (fun cdv A outer s H vs Q E hr h => ?_)
  · obtain ⟨_, _, _, _, _, _, _, _, _, rfl, _⟩ := h
    rfl
  · obtain ⟨n, o, b, c, s, A, R, ps, es, rfl, hA, hR, hp, he, c0, c1, q⟩ := h
    obtain ⟨vs, hA1, hA2, hA3⟩ := hA
    refine ⟨_, (pss_cons (ps_set (i := 7) sc__law_demand.nd rfl (by first | exact Or.inl rfl | exact Or.inr rfl) (pe_op op_add (pv 1) (pv 2)))
  (pss_cons (ps_for PassesOwn.never rfl (pi_list (pv 3)) (pg_name (i := 8) sc__law_demand.nd rfl (by first | exact Or.inl rfl | exact Or.inr rfl))
  (pss_one (ps_set (i := 7) sc__law_demand.nd rfl (by first | exact Or.inl rfl | exact Or.inr rfl) (pe_op op_add (pv 7) (pe_op op_mul (pe_ix ix_tup (pv 8) pe_int (fun _ _ => rfl)) (pe_call (ok__law_up T) (hr.mono (by decide)) (by rfl) T.g__law_up T.F__law_up.kp T.b__law_up .nil pass0 (pa_cons (pv 0) (pa_cons (pe_ix ix_tup (pv 8) pe_int (fun _ _ => rfl)) pa_nil))))))))
  (pss_cons (ps_for PassesOwn.never rfl (pi_list (pv 4)) (pg_name (i := 9) sc__law_demand.nd rfl (by first | exact Or.inl rfl | exact Or.inr rfl))
  (pss_one (ps_set (i := 7) sc__law_demand.nd rfl (by first | exact Or.inl rfl | exact Or.inr rfl) (pe_op op_add (pv 7) (pe_op op_mul (pv 5) (pe_call (ok__law_up T) (hr.mono (by decide)) (by rfl) T.g__law_up T.F__law_up.kp T.b__law_up .nil pass0 (pa_cons (pe_op op_add (pv 0) (pv 6)) (pa_cons (pv 9) pa_nil))))))))
  (pss_one (ps_ret (pv 7)))))), ?_⟩
    rw [show ∀ a0 a1 a2 a3 a4 a5 a6 : V, L2.start ["window", "own", "blocked", "above", "releases", "cost", "slack", "total", "pair", "every"] [a0, a1, a2, a3, a4, a5, a6] = [some a0, some a1, some a2, some a3, some a4, some a5, some a6, none, none, none] from fun _ _ _ _ _ _ _ => rfl]
    walk_at "my rn"
    refine for_it (walk_list (xs := vs)) (fun i σ H' => H' = H ∧ ∃ y8 y9, σ = [some (.int n), some (.int o), some (.int b), some (.ref A), some (.ref R), some (.int c), some (.int s), some (.int (o + b + sA n (ps.take i))), y8, y9]) ⟨rfl, none, none, by simp [sA]⟩ (fun i σ H' _ h => by rw [h.1]; exact hA1) ?_ ?_
    · rintro i x σ H' H'' hi ⟨rfl, y8, y9, rfl⟩ ⟨rfl, hx⟩
      obtain ⟨p, hpi⟩ : ∃ p, ps[i]? = some p := ⟨_, List.getElem?_eq_getElem (by omega)⟩
      obtain ⟨t, ht, hT⟩ := hA3 i p hpi
      have hb := hp p (List.mem_of_getElem? hpi)
      rw [ht] at hx
      cases hx
      walk_at "my rn"
      refine ⟨_, _, rfl, hb.1, hb.2.1, ?_⟩
      refine Rd.I (Or.inl ⟨by omega, by omega⟩) ?_
      walk_at "my rn"
      exact ⟨_, _, by rw [sA_add hpi, Int.add_assoc (o + b)]⟩
    · rintro σ H' ⟨rfl, y8, y9, rfl⟩
      walk_at "my rn"
      refine for_it (walk_list (xs := es.map V.int)) (fun i σ H'' => H'' = H' ∧ ∃ y8 y9, σ = [some (.int n), some (.int o), some (.int b), some (.ref A), some (.ref R), some (.int c), some (.int s), some (.int (o + b + sA n ps + sR (n + s) c (es.take i))), y8, y9]) ⟨rfl, y8, y9, by simp [sR, hA2]⟩ (fun i σ H' _ h => by rw [h.1]; exact hR) ?_ ?_
      · rintro i x σ H1 H2 hi ⟨rfl, y8, y9, rfl⟩ ⟨rfl, hx⟩
        rw [List.getElem?_map] at hx
        obtain ⟨e, hei, rfl⟩ : ∃ e, es[i]? = some e ∧ V.int e = x := by
          cases z : es[i]? with
          | none => rw [z] at hx; cases hx
          | some e => rw [z] at hx; exact ⟨e, rfl, Option.some.inj hx⟩
        have hb := he e (List.mem_of_getElem? hei)
        walk_at "my rn"
        refine ⟨_, _, rfl, hb.1, hb.2, ?_⟩
        refine Rd.I (Or.inl ⟨by omega, by omega⟩) ?_
        walk_at "my rn"
        exact ⟨_, _, by rw [sR_add hei, Int.add_assoc (o + b + sA n ps)]⟩
      · rintro σ H1 ⟨rfl, y8, y9, rfl⟩
        walk_at "my rn"
        rw [List.length_map, List.take_length]
        exact q
end

theorem sA_nn {w : Int} {ps : List (Int × Int)} (hw : 0 ≤ w) (hp : ∀ p ∈ ps, 0 < p.1 ∧ 0 ≤ p.2) : 0 ≤ sA w ps := by
  induction ps with
  | nil => simp [sA]
  | cons p r ih =>
    have h1 := hp p List.mem_cons_self
    have h2 := ih fun q m => hp q (List.mem_cons_of_mem _ m)
    have h4 : 0 ≤ upI w p.1 := by
      have a := upI_le (n := w) h1.1
      rcases Int.lt_or_le (upI w p.1) 0 with c | c
      · have := Int.mul_neg_of_neg_of_pos c h1.1
        omega
      · exact c
    have h3 := Int.mul_nonneg h1.2 h4
    unfold sA at h2 ⊢
    simp only [List.map_cons, List.sum_cons]
    omega
section
variable {P : Program} {w : World} {K : PySem.W.Frag} {mg : Str → Option Value} {base : Heap}
def sp__law_every : Sp := fun vs H Q _ => ∃ (p c : Addr), vs = [.ref p] ∧ StOk H p c ∧ ∀ (v : Int) (H' : Hp), 1 ≤ v → v ≤ 400 → StOk H' p c → Keep p c H H' → Q (.int v) H'
theorem ok__law_every (T : Top K mg) : FnOk P w K mg base CX0 2 T.a__law_every T.d__law_every ["state"]  sp__law_every := by
  refine T.F__law_every.ok sc__law_every (fun vs H Q E h => ?_) (fun cdv A outer s H vs Q E hr h => ?_)
  · obtain ⟨_, _, rfl, _⟩ := h
    rfl
  · obtain ⟨p, c, rfl, st, q⟩ := h
    refine ⟨_, (pss_cons (ps_if (pt_cmpR op_eq (pe_call (ok__law_draw T) (hr.mono (by decide)) (by rfl) T.g__law_draw T.F__law_draw.kp T.b__law_draw .nil pass0 (pa_cons (pv 0) (pa_cons pe_int pa_nil))) pe_int (nomark _))
  (pss_one (ps_ret (pe_op op_add pe_int (pe_call (ok__law_draw T) (hr.mono (by decide)) (by rfl) T.g__law_draw T.F__law_draw.kp T.b__law_draw .nil pass0 (pa_cons (pv 0) (pa_cons pe_int pa_nil))))))
  pss_nil)
  (pss_one (ps_ret (pe_op op_add pe_int (pe_call (ok__law_draw T) (hr.mono (by decide)) (by rfl) T.g__law_draw T.F__law_draw.kp T.b__law_draw .nil pass0 (pa_cons (pv 0) (pa_cons pe_int pa_nil))))))), ?_⟩
    rw [show ∀ a0 : V, L2.start ["state"] [a0] = [some a0] from fun _ => rfl]
    walk_at "my rn"
    refine ⟨p, c, _, rfl, st, by decide, by decide, fun v H1 v0 v1 st1 k1 => ?_⟩
    walk_at "my rn"
    refine Rd.ifD (fun _ => ?_) (fun _ => ?_)
    · walk_at "my rn"
      refine ⟨p, c, _, rfl, st1, by decide, by decide, fun u H2 u0 u1 st2 k2 => ?_⟩
      walk_at "my rn"
      exact q _ _ (by omega) (by omega) st2 (k1.trans k2)
    · walk_at "my rn"
      refine ⟨p, c, _, rfl, st1, by decide, by decide, fun u H2 u0 u1 st2 k2 => ?_⟩
      walk_at "my rn"
      exact q _ _ (by omega) (by omega) st2 (k1.trans k2)
def sp__law_due (K : PySem.W.Frag) : Sp := fun vs H Q _ => ∃ (lim o b c s : Int) (A R : Addr) (ps : List (Int × Int)) (es : List Int), vs = [.int lim, .int o, .int b, .ref A, .ref R, .int c, .int s] ∧
  Prs K H A ps ∧ SqL K H R (es.map V.int) ∧ (∀ p ∈ ps, 0 < p.1 ∧ p.1 < 1099511627776 ∧ 0 ≤ p.2 ∧ p.2 < 2 ^ 62) ∧ (∀ e ∈ es, 0 < e ∧ e < 1099511627776) ∧ 0 ≤ c ∧ c < 2 ^ 62 ∧ 0 ≤ lim ∧ lim < 2 ^ 60 ∧
  ∀ v, Lst (fun w => dmI w o b ps es c s) lim v → Q v H
theorem ok__law_due (T : Top K mg) : FnOk P w K mg base CX0 3 T.a__law_due T.d__law_due ["limit", "own", "blocked", "above", "releases", "cost", "slack"]  (sp__law_due K) := by
  refine T.F__law_due.ok sc__law_due (fun vs H Q E h => ?_) (fun cdv A outer s H vs Q E hr h => ?_)
  · obtain ⟨_, _, _, _, _, _, _, _, _, rfl, _⟩ := h
    rfl
  · obtain ⟨lim, o, b, c, s, A, R, ps, es, rfl, hA, hR, hp, he, c0, c1, l0, l1, q⟩ := h
    refine ⟨_, (pss_cons (ps_for PassesOwn.never rfl (pi_range2 (by rfl) T.m_range (pa_cons pe_int (pa_cons (pe_op op_add (pv 0) pe_int) pa_nil))) (pg_name (i := 7) sc__law_due.nd rfl (by first | exact Or.inl rfl | exact Or.inr rfl))
  (pss_one (ps_if (pt_cmpR op_le (pe_call (ok__law_demand T) (hr.mono (by decide)) (by rfl) T.g__law_demand T.F__law_demand.kp T.b__law_demand .nil pass0 (pa_cons (pv 7) (pa_cons (pv 1) (pa_cons (pv 2) (pa_cons (pv 3) (pa_cons (pv 4) (pa_cons (pv 5) (pa_cons (pv 6) pa_nil)))))))) (pv 7) (nomark _))
  (pss_one (ps_ret (pv 7)))
  pss_nil)))
  (pss_one (ps_ret pe_non))), ?_⟩
    rw [show ∀ a0 a1 a2 a3 a4 a5 a6 : V, L2.start ["limit", "own", "blocked", "above", "releases", "cost", "slack", "window"] [a0, a1, a2, a3, a4, a5, a6] = [some a0, some a1, some a2, some a3, some a4, some a5, some a6, none] from fun _ _ _ _ _ _ _ => rfl]
    walk_at "my rn"
    refine ⟨by omega, for_it walk_range (fun i σ H' => H' = H ∧ (∃ y7, σ = [some (.int lim), some (.int o), some (.int b), some (.ref A), some (.ref R), some (.int c), some (.int s), y7]) ∧ ∀ u, 1 ≤ u → u < 1 + (i : Int) → u < dmI u o b ps es c s) ⟨rfl, ⟨none, rfl⟩, fun u h1 h2 => by omega⟩
      (fun _ _ _ _ _ => trivial) ?_ ?_⟩
    · rintro i x σ H' H'' hi ⟨rfl, ⟨y7, rfl⟩, hu⟩ ⟨rfl, rfl⟩
      walk_at "my rn"
      refine ⟨_, _, _, _, _, A, R, ps, es, rfl, hA, hR, hp, he, c0, c1, ?_⟩
      walk_at "my rn"
      refine Rd.ifD (fun cd => ?_) (fun cd => ?_)
      · walk_at "my rn"
        exact q _ (.inl ⟨_, rfl, by omega, by omega, cd, fun u h1 h2 => hu u h1 h2⟩)
      · walk_at "my rn"
        refine ⟨⟨_, rfl⟩, fun u h1 h2 => ?_⟩
        by_cases e : u = 1 + (i : Int)
        · rw [e]; omega
        · exact hu u h1 (by omega)
    · rintro σ H' ⟨rfl, ⟨y7, rfl⟩, hu⟩
      walk_at "my rn"
      exact q _ (.inr ⟨rfl, fun u h1 h2 => hu u h1 (by omega)⟩)
end

end Mine

set_option Elab.async false
set_option linter.all false
set_option maxRecDepth 100000
set_option maxHeartbeats 1000000



namespace Mine
open PySem PySem.Spec PyProof.Rows L2
local macro_rules | `(tactic| walk_at "my rn") => `(tactic| (repeat (first | with_reducible refine Rd.tupN ?_ | with_reducible refine Rd.lstN ?_ | with_reducible refine Rd.cbListOf ?_ | with_reducible refine Rd.cbListOfR ?_ | with_reducible refine Rd.catI ?_ | with_reducible refine Rd.slN ?_ | with_reducible refine Rd.cbSrtI ?_ | with_reducible refine Rd.seq ?_ | with_reducible refine Rd.next ?_ | with_reducible refine Rd.brk ?_ | with_reducible refine Rd.cont ?_ | with_reducible refine Rd.asg ?_ | with_reducible refine Rd.ret ?_ | with_reducible refine Rd.retN ?_ | with_reducible refine Rd.drop ?_ | with_reducible refine Rd.ifs ?_ | with_reducible refine Rd.ife ?_ | with_reducible refine Rd.test ?_ | with_reducible refine Rd.tb_ ?_ | with_reducible refine Rd.bl ?_ | with_reducible refine Rd.bl2 ?_ | with_reducible refine Rd.and_ ?_ | with_reducible refine Rd.or_ ?_ | with_reducible refine Rd.not_ ?_ | with_reducible refine Rd.andV ?_ | with_reducible refine Rd.orV ?_ | with_reducible refine Rd.notV ?_ | with_reducible refine Rd.op ?_ | with_reducible refine Rd.un ?_ | with_reducible refine Rd.I0 ?_ | with_reducible refine Rd.U ?_ | with_reducible refine Rd.ip ?_ | with_reducible refine Rd.c_ ?_ | with_reducible refine Rd.nil ?_ | with_reducible refine Rd.cons ?_ | with_reducible refine Rd.call ?_ | with_reducible refine Rd.cb ?_ | with_reducible refine Rd.bm ?_ | with_reducible refine Rd.bm0 ?_ | with_reducible refine Rd.nopart ?_ | with_reducible refine Rd.part ?_ | with_reducible refine Rd.int1 ?_ | with_reducible refine Rd.ints1 ?_ | with_reducible refine Rd.ints2 ?_ | with_reducible refine Rd.gcons ?_ | with_reducible refine Rd.gnil ?_ | with_reducible refine Rd.sub ?_ | with_reducible refine Rd.isN ?_ | with_reducible refine Rd.chain ?_ | with_reducible refine Rd.rf ?_ | with_reducible refine Rd.tyS ?_ | with_reducible refine Rd.intI ?_ | with_reducible refine Rd.lc ?_ | with_reducible refine Rd.for_ ?_ | with_reducible refine Rd.ilist ?_ | with_reducible refine Rd.itup ?_ | with_reducible refine Rd.irng1 ?_ | with_reducible refine Rd.irng2 ?_ | with_reducible refine Rd.ienum ?_ | with_reducible refine Rd.istr ?_ | with_reducible refine Rd.refA ?_ | with_reducible refine Rd.strA ?_ | with_reducible refine Rd.yes ?_ | with_reducible refine Rd.ifT ?_ | with_reducible refine Rd.ifF ?_ | with_reducible refine Rd.ifnT ?_ | with_reducible refine Rd.ifnF ?_ | with_reducible refine Rd.isi_ii ?_ | with_reducible refine Rd.isi_ib ?_ | with_reducible refine Rd.isi_is ?_ | with_reducible refine Rd.isi_il ?_ | with_reducible refine Rd.isi_it ?_ | with_reducible refine Rd.isi_id ?_ | with_reducible refine Rd.isi_bi ?_ | with_reducible refine Rd.isi_bb ?_ | with_reducible refine Rd.isi_bs ?_ | with_reducible refine Rd.isi_bl ?_ | with_reducible refine Rd.isi_bt ?_ | with_reducible refine Rd.isi_bd ?_ | with_reducible refine Rd.isi_si ?_ | with_reducible refine Rd.isi_sb ?_ | with_reducible refine Rd.isi_ss ?_ | with_reducible refine Rd.isi_sl ?_ | with_reducible refine Rd.isi_st ?_ | with_reducible refine Rd.isi_sd ?_ | with_reducible refine Rd.isi_ni ?_ | with_reducible refine Rd.isi_nb ?_ | with_reducible refine Rd.isi_ns ?_ | with_reducible refine Rd.isi_nl ?_ | with_reducible refine Rd.isi_nt ?_ | with_reducible refine Rd.isi_nd ?_ | with_reducible refine Rd.sl ?_ | with_reducible refine Rd.v0 ?_ | with_reducible refine Rd.v1 ?_ | with_reducible refine Rd.v2 ?_ | with_reducible refine Rd.v3 ?_ | with_reducible refine Rd.v4 ?_ | with_reducible refine Rd.v5 ?_ | with_reducible refine Rd.v6 ?_ | with_reducible refine Rd.v7 ?_ | with_reducible refine Rd.v8 ?_ | with_reducible refine Rd.v9 ?_ | with_reducible refine Rd.v10 ?_ | with_reducible refine Rd.v11 ?_ | with_reducible refine Rd.v12 ?_ | with_reducible refine Rd.v13 ?_ | with_reducible refine Rd.v14 ?_ | with_reducible refine Rd.v15 ?_ | with_reducible refine Rd.v16 ?_ | with_reducible refine Rd.v17 ?_ | with_reducible refine Rd.v18 ?_ | with_reducible refine Rd.v19 ?_ | with_reducible refine Rd.v20 ?_ | with_reducible refine Rd.v21 ?_ | with_reducible refine Rd.v22 ?_ | with_reducible refine Rd.v23 ?_ | with_reducible refine Rd.v24 ?_ | with_reducible refine Rd.v25 ?_ | with_reducible refine Rd.v26 ?_ | with_reducible refine Rd.v27 ?_ | with_reducible refine Rd.n0 ?_ | with_reducible refine Rd.n1 ?_ | with_reducible refine Rd.n2 ?_ | with_reducible refine Rd.n3 ?_ | with_reducible refine Rd.n4 ?_ | with_reducible refine Rd.n5 ?_ | with_reducible refine Rd.n6 ?_ | with_reducible refine Rd.n7 ?_ | with_reducible refine Rd.n8 ?_ | with_reducible refine Rd.n9 ?_ | with_reducible refine Rd.n10 ?_ | with_reducible refine Rd.n11 ?_ | with_reducible refine Rd.n12 ?_ | with_reducible refine Rd.n13 ?_ | with_reducible refine Rd.n14 ?_ | with_reducible refine Rd.n15 ?_ | with_reducible refine Rd.n16 ?_ | with_reducible refine Rd.n17 ?_ | with_reducible refine Rd.n18 ?_ | with_reducible refine Rd.n19 ?_ | with_reducible refine Rd.n20 ?_ | with_reducible refine Rd.n21 ?_ | with_reducible refine Rd.n22 ?_ | with_reducible refine Rd.n23 ?_ | with_reducible refine Rd.n24 ?_ | with_reducible refine Rd.n25 ?_ | with_reducible refine Rd.n26 ?_ | with_reducible refine Rd.n27 ?_ | with_reducible refine Rd.g0 ?_ | with_reducible refine Rd.g1 ?_ | with_reducible refine Rd.g2 ?_ | with_reducible refine Rd.g3 ?_ | with_reducible refine Rd.g4 ?_ | with_reducible refine Rd.g5 ?_ | with_reducible refine Rd.g6 ?_ | with_reducible refine Rd.g7 ?_ | with_reducible refine Rd.g8 ?_ | with_reducible refine Rd.g9 ?_ | with_reducible refine Rd.g10 ?_ | with_reducible refine Rd.g11 ?_ | with_reducible refine Rd.g12 ?_ | with_reducible refine Rd.g13 ?_ | with_reducible refine Rd.g14 ?_ | with_reducible refine Rd.g15 ?_ | with_reducible refine Rd.g16 ?_ | with_reducible refine Rd.g17 ?_ | with_reducible refine Rd.g18 ?_ | with_reducible refine Rd.g19 ?_ | with_reducible refine Rd.g20 ?_ | with_reducible refine Rd.g21 ?_ | with_reducible refine Rd.g22 ?_ | with_reducible refine Rd.g23 ?_ | with_reducible refine Rd.g24 ?_ | with_reducible refine Rd.g25 ?_ | with_reducible refine Rd.g26 ?_ | with_reducible refine Rd.g27 ?_ | ((with_reducible refine Rd.eq ?_ ?_); exact rfl) | ((with_reducible refine Rd.ne ?_ ?_); exact rfl) | ((with_reducible refine Rd.szA ?_ ?_); exact Nat.le_of_ble_eq_true rfl) | ((with_reducible refine Rd.I ?_ ?_); first | assumption | decide | exact Or.inr (by decide +kernel) | exact Or.inl (by decide +kernel) | exact ⟨by decide, by decide⟩ | exact ⟨by decide, by decide, by decide⟩ | omega) | ((with_reducible apply Rd.tyL); first | assumption | exact upd_same) | ((with_reducible apply Rd.tyLq); assumption) | ((with_reducible apply Rd.ixL); (first | assumption | exact upd_same); exact rfl) | ((with_reducible apply Rd.ixT); (first | assumption | exact upd_same); exact rfl) | ((with_reducible apply Rd.ixLq); assumption; exact rfl) | ((with_reducible apply Rd.ixTq); assumption; exact rfl) | ((with_reducible apply Rd.gtup); (first | assumption | exact upd_same); exact rfl) | ((with_reducible apply Rd.gtupq); assumption; exact rfl) | ((with_reducible apply Rd.sqAq); assumption) | ((with_reducible apply Rd.stAq); assumption) | ((with_reducible apply Rd.enAq); assumption) | ((with_reducible apply Rd.lenLq); assumption) | ((with_reducible apply Rd.lenTq); assumption) | ((with_reducible apply Rd.sqA); first | assumption | exact upd_same) | ((with_reducible apply Rd.stA); first | assumption | exact upd_same) | ((with_reducible apply Rd.enA); first | assumption | exact upd_same) | ((with_reducible apply Rd.lenL); first | assumption | exact upd_same) | ((with_reducible apply Rd.lenT); first | assumption | exact upd_same) | ((with_reducible refine Rd.nwT ?_ ?_); exact Nat.le_of_ble_eq_true rfl) | ((with_reducible refine Rd.nwL ?_ ?_); exact Nat.le_of_ble_eq_true rfl) | ((with_reducible apply Rd.listOf); assumption) | ((with_reducible apply Rd.listOfq); assumption) | ((with_reducible apply Rd.slo); assumption) | ((with_reducible apply Rd.slq); assumption) | ((with_reducible apply Rd.srtI); assumption) | ((with_reducible apply Rd.srtIo); assumption) | ((with_reducible refine Rd.isi_li (by assumption) ?_)) | ((with_reducible refine Rd.isi_lb (by assumption) ?_)) | ((with_reducible refine Rd.isi_ls (by assumption) ?_)) | ((with_reducible refine Rd.isi_ll (by assumption) ?_)) | ((with_reducible refine Rd.isi_lt (by assumption) ?_)) | ((with_reducible refine Rd.isi_ld (by assumption) ?_)) | ((with_reducible refine Rd.isi_ti (by assumption) ?_)) | ((with_reducible refine Rd.isi_tb (by assumption) ?_)) | ((with_reducible refine Rd.isi_ts (by assumption) ?_)) | ((with_reducible refine Rd.isi_tl (by assumption) ?_)) | ((with_reducible refine Rd.isi_tt (by assumption) ?_)) | ((with_reducible refine Rd.isi_td (by assumption) ?_)))))
section
variable {P : Program} {w : World} {K : PySem.W.Frag} {mg : Str → Option Value} {base : Heap}
def sp_law (K : PySem.W.Frag) : Sp := fun vs H Q _ => ∃ (a : Addr) (ns : List Int), vs = [.ref a] ∧ SqL K H a (ns.map V.int) ∧ ns.length ≤ 63 ∧ ∀ H', Q (.bl true) H'
theorem ok_law (T : Top K mg) : FnOk P w K mg base CX0 4 T.a_law T.d_law ["script"]  (sp_law K) := by
  refine T.F_law.ok sc_law (fun vs H Q E h => ?_) (fun cdv A outer s H vs Q E hr h => ?_)
  · obtain ⟨_, _, rfl, _⟩ := h
    rfl
  · obtain ⟨l, ns, rfl, hS, hlen, q⟩ := h
    refine ⟨_, (pss_cons (ps_set (i := 1) sc_law.nd rfl (by first | exact Or.inl rfl | exact Or.inr rfl) (pe_call (ok__law_state T) (hr.mono (by decide)) (by rfl) T.g__law_state T.F__law_state.kp T.b__law_state .nil pass0 (pa_cons (pv 0) pa_nil)))
  (pss_cons (ps_set (i := 2) sc_law.nd rfl (by first | exact Or.inl rfl | exact Or.inr rfl) (pe_op op_add pe_int (pe_ix ix_list (pe_lst (pa_cons (pe_call (ok__law_draw T) (hr.mono (by decide)) (by rfl) T.g__law_draw T.F__law_draw.kp T.b__law_draw .nil pass0 (pa_cons (pv 1) (pa_cons pe_int pa_nil))) (pa_cons (pe_call (ok__law_draw T) (hr.mono (by decide)) (by rfl) T.g__law_draw T.F__law_draw.kp T.b__law_draw .nil pass0 (pa_cons (pv 1) (pa_cons pe_int pa_nil))) pa_nil))) (pe_callTy call_int1 (by rfl) T.m_int (by decide +kernel) (pa_cons (pe_cmpR op_eq (pe_call (ok__law_draw T) (hr.mono (by decide)) (by rfl) T.g__law_draw T.F__law_draw.kp T.b__law_draw .nil pass0 (pa_cons (pv 1) (pa_cons pe_int pa_nil))) pe_int (nomark _)) pa_nil)) (fun _ _ => rfl))))
  (pss_cons (ps_set (i := 3) sc_law.nd rfl (by first | exact Or.inl rfl | exact Or.inr rfl) (pe_lst pa_nil))
  (pss_cons (ps_for PassesOwn.never rfl (pi_range1 (by rfl) T.m_range (pa_cons (pe_call (ok__law_draw T) (hr.mono (by decide)) (by rfl) T.g__law_draw T.F__law_draw.kp T.b__law_draw .nil pass0 (pa_cons (pv 1) (pa_cons pe_int pa_nil))) pa_nil)) (pg_name (i := 4) sc_law.nd rfl (by first | exact Or.inl rfl | exact Or.inr rfl))
  (pss_cons (ps_set (i := 5) sc_law.nd rfl (by first | exact Or.inl rfl | exact Or.inr rfl) (pe_call (ok__law_every T) (hr.mono (by decide)) (by rfl) T.g__law_every T.F__law_every.kp T.b__law_every .nil pass0 (pa_cons (pv 1) pa_nil)))
  (pss_one (ps_expr (pe_bm PySem.F.plainAttrs_list PySem.F.slot_list_append PySem.F.type_list_append mt_append (pv 3) (pa_cons (pe_tup (pa_cons (pv 5) (pa_cons (pe_call (ok__law_draw T) (hr.mono (by decide)) (by rfl) T.g__law_draw T.F__law_draw.kp T.b__law_draw .nil pass0 (pa_cons (pv 1) (pa_cons (pe_op op_add pe_int (pe_op op_fdiv (pe_callB (call_min2 rfl) (by rfl) T.m_min (by decide +kernel) (pa_cons (pv 5) (pa_cons pe_int pa_nil))) pe_int)) pa_nil))) pa_nil))) pa_nil))))))
  (pss_cons (ps_setLc (i := 6) (own := [("k", 4)]) (g := gName 4) (tt := tYes) rfl sc_law.nd rfl rfl (sw_true rfl rfl rfl (by decide +kernel)) (pi_range1 (by rfl) T.m_range (pa_cons (pe_call (ok__law_draw T) (hr.mono (by decide)) (by rfl) T.g__law_draw T.F__law_draw.kp T.b__law_draw .nil pass0 (pa_cons (pv 1) (pa_cons pe_int pa_nil))) pa_nil)) (blkOk_by (N := ["script", "state", "limit", "above", "k", "every", "releases", "own", "blocked", "cost", "slack", "due", "scale", "more", "wide", "pair", "times", "numbers", "actual"]) (sc := defScope s_law) (by decide +kernel)) (fun _ _ _ _ _ => pg_name (i := 4) sc_law.nd rfl (Or.inl rfl)) (fun _ _ _ _ _ => pts_nil) (fun _ _ _ _ _ => (pe_call (ok__law_every T) (hr.mono (by decide)) (by rfl) T.g__law_every T.F__law_every.kp T.b__law_every .nil pass0 (pa_cons (pv 1) pa_nil))))
  (pss_cons (ps_set (i := 7) sc_law.nd rfl (by first | exact Or.inl rfl | exact Or.inr rfl) (pe_op op_add pe_int (pe_call (ok__law_draw T) (hr.mono (by decide)) (by rfl) T.g__law_draw T.F__law_draw.kp T.b__law_draw .nil pass0 (pa_cons (pv 1) (pa_cons pe_int pa_nil)))))
  (pss_cons (ps_set (i := 8) sc_law.nd rfl (by first | exact Or.inl rfl | exact Or.inr rfl) (pe_call (ok__law_draw T) (hr.mono (by decide)) (by rfl) T.g__law_draw T.F__law_draw.kp T.b__law_draw .nil pass0 (pa_cons (pv 1) (pa_cons pe_int pa_nil))))
  (pss_cons (ps_set (i := 9) sc_law.nd rfl (by first | exact Or.inl rfl | exact Or.inr rfl) (pe_call (ok__law_draw T) (hr.mono (by decide)) (by rfl) T.g__law_draw T.F__law_draw.kp T.b__law_draw .nil pass0 (pa_cons (pv 1) (pa_cons pe_int pa_nil))))
  (pss_cons (ps_set (i := 10) sc_law.nd rfl (by first | exact Or.inl rfl | exact Or.inr rfl) (pe_call (ok__law_draw T) (hr.mono (by decide)) (by rfl) T.g__law_draw T.F__law_draw.kp T.b__law_draw .nil pass0 (pa_cons (pv 1) (pa_cons pe_int pa_nil))))
  (pss_cons (ps_set (i := 11) sc_law.nd rfl (by first | exact Or.inl rfl | exact Or.inr rfl) (pe_call (ok__law_due T) (hr.mono (by decide)) (by rfl) T.g__law_due T.F__law_due.kp T.b__law_due .nil pass0 (pa_cons (pv 2) (pa_cons (pv 7) (pa_cons (pv 8) (pa_cons (pv 3) (pa_cons (pv 6) (pa_cons (pv 9) (pa_cons (pv 10) pa_nil)))))))))
  (pss_cons (ps_set (i := 12) sc_law.nd rfl (by first | exact Or.inl rfl | exact Or.inr rfl) (pe_op op_add pe_int (pe_ix ix_list (pe_lst (pa_cons pe_int (pa_cons (pe_call (ok__law_draw T) (hr.mono (by decide)) (by rfl) T.g__law_draw T.F__law_draw.kp T.b__law_draw .nil pass0 (pa_cons (pv 1) (pa_cons pe_int pa_nil))) (pa_cons (pe_call (ok__law_draw T) (hr.mono (by decide)) (by rfl) T.g__law_draw T.F__law_draw.kp T.b__law_draw .nil pass0 (pa_cons (pv 1) (pa_cons pe_int pa_nil))) pa_nil)))) (pe_call (ok__law_draw T) (hr.mono (by decide)) (by rfl) T.g__law_draw T.F__law_draw.kp T.b__law_draw .nil pass0 (pa_cons (pv 1) (pa_cons pe_int pa_nil))) (fun _ _ => rfl))))
  (pss_cons (ps_set (i := 13) sc_law.nd rfl (by first | exact Or.inl rfl | exact Or.inr rfl) (pe_call (ok__law_draw T) (hr.mono (by decide)) (by rfl) T.g__law_draw T.F__law_draw.kp T.b__law_draw .nil pass0 (pa_cons (pv 1) (pa_cons (pv 12) pa_nil))))
  (pss_cons (ps_setLc (i := 14) (own := [("pair", 15)]) (g := gName 15) (tt := tYes) rfl sc_law.nd rfl rfl (sw_true rfl rfl rfl (by decide +kernel)) (pi_list (pv 3)) (blkOk_by (N := ["script", "state", "limit", "above", "k", "every", "releases", "own", "blocked", "cost", "slack", "due", "scale", "more", "wide", "pair", "times", "numbers", "actual"]) (sc := defScope s_law) (by decide +kernel)) (fun _ _ _ _ _ => pg_name (i := 15) sc_law.nd rfl (Or.inl rfl)) (fun _ _ _ _ _ => pts_nil) (fun _ _ _ _ _ => (pe_tup (pa_cons (pe_op op_mul (pe_ix (r := rIxT K) ix_tup (pv 15) pe_int (fun _ _ => rfl)) (pv 12)) (pa_cons (pe_op op_mul (pe_ix (r := rIxT K) ix_tup (pv 15) pe_int (fun _ _ => rfl)) (pv 12)) pa_nil)))))
  (pss_cons (ps_setLc (i := 16) (own := [("every", 5)]) (g := gName 5) (tt := tYes) rfl sc_law.nd rfl rfl (sw_true rfl rfl rfl (by decide +kernel)) (pi_list (pv 6)) (blkOk_by (N := ["script", "state", "limit", "above", "k", "every", "releases", "own", "blocked", "cost", "slack", "due", "scale", "more", "wide", "pair", "times", "numbers", "actual"]) (sc := defScope s_law) (by decide +kernel)) (fun _ _ _ _ _ => pg_name (i := 5) sc_law.nd rfl (Or.inl rfl)) (fun _ _ _ _ _ => pts_nil) (fun _ _ _ _ _ => (pe_op op_mul (pv 5) (pv 12))))
  (pss_cons (ps_set (i := 17) sc_law.nd rfl (by first | exact Or.inl rfl | exact Or.inr rfl) (pe_lst (pa_cons (pe_op op_add (pe_op op_mul (pv 2) (pv 12)) (pv 13)) (pa_cons (pe_op op_mul (pv 7) (pv 12)) (pa_cons (pe_op op_mul (pv 8) (pv 12)) (pa_cons (pe_op op_mul (pv 9) (pv 12)) (pa_cons (pe_op op_mul (pv 10) (pv 12)) pa_nil)))))))
  (pss_cons (ps_set (i := 18) sc_law.nd rfl (by first | exact Or.inl rfl | exact Or.inr rfl) (pe_call (ok_response_time T) (hr.mono (by decide)) (by rfl) T.g_response_time T.F_response_time.kp T.b_response_time .nil pass0 (pa_cons (pe_ix ix_list (pv 17) pe_int (fun _ _ => rfl)) (pa_cons (pe_ix ix_list (pv 17) pe_int (fun _ _ => rfl)) (pa_cons (pe_ix ix_list (pv 17) pe_int (fun _ _ => rfl)) (pa_cons (pv 14) (pa_cons (pv 16) (pa_cons (pe_ix ix_list (pv 17) pe_int (fun _ _ => rfl)) (pa_cons (pe_ix ix_list (pv 17) pe_int (fun _ _ => rfl)) pa_nil)))))))))
  (pss_cons (ps_if (pt_cmpR op_isN (pv 11) pe_non (nomark _))
  (pss_one (ps_ret (pe_cmpR op_isN (pv 18) pe_non (nomark _))))
  pss_nil)
  (pss_one (ps_ret (pe_and (pe_callB call_isi (by rfl) T.m_isinstance (by decide +kernel) (pa_cons (pv 18) (pa_cons (pe_ty (T := "int") (by rfl) T.m_int (by decide +kernel)) pa_nil))) (pe_and (pe_not (pe_callB call_isi (by rfl) T.m_isinstance (by decide +kernel) (pa_cons (pv 18) (pa_cons (pe_ty (T := "bool") (by rfl) T.m_bool (by decide +kernel)) pa_nil)))) (pe_one (pe_cmpR op_eq (pv 18) (pe_op op_mul (pv 11) (pv 12)) (nomark _)))))))))))))))))))))))), ?_⟩
    rw [show ∀ a0 : V, L2.start ["script", "state", "limit", "above", "k", "every", "releases", "own", "blocked", "cost", "slack", "due", "scale", "more", "wide", "pair", "times", "numbers", "actual"] [a0] = [some a0, none, none, none, none, none, none, none, none, none, none, none, none, none, none, none, none, none, none] from fun _ => rfl]
    walk_at "my rn"
    refine ⟨l, ns, rfl, hS, hlen, fun H0 p c s0 np nc st0 => ?_⟩
    walk_at "my rn"
    refine ⟨p, c, _, rfl, st0, by decide, by decide, fun a1 H1 a10 a11 st1 k1 => ?_⟩
    walk_at "my rn"
    refine ⟨p, c, _, rfl, st1, by decide, by decide, fun a2 H2 a20 a21 st2 k2 => ?_⟩
    walk_at "my rn"
    intro L1 H3 nL1 s3 hL1
    walk_at "my rn"
    refine ⟨p, c, _, rfl, st2.same s3, by decide, by decide, fun a3 H4 a30 a31 st4 k4 => ?_⟩
    walk_at "my rn"
    refine .inr ⟨_, rfl, ?_⟩
    have hL14 := k4.trans (Keep.refl p c _) L1 _ (st2.ne nL1).1 (st2.ne nL1).2 hL1
    obtain ⟨lim, lim0, lim1, hlim⟩ : ∃ lim : Int, 0 ≤ lim ∧ lim < 1500 ∧ atI [V.int a1, V.int a2] (if decide (V.int a3 = V.int 0) = true then 1 else 0) = some (V.int lim) := by
      by_cases e : a3 = 0
      · exact ⟨a2, a20, a21, by rw [e]; rfl⟩
      · exact ⟨a1, a10, by omega, by rw [decide_eq_false (by simpa using e)]; rfl⟩
    refine Rd.ixL hL14 hlim ?_
    walk_at "my rn"
    intro Ar H5 nA s5 hA
    walk_at "my rn"
    have st5 := st4.same s5
    refine ⟨p, c, _, rfl, st5, by decide, by decide, fun n H6 n0 n1 st6 k6 => ?_⟩
    have k04 : Keep p c H0 H4 := k1.trans (k2.trans ((Keep.same s3).trans k4))
    have k06 : Keep p c H0 H6 := k04.trans ((Keep.same s5).trans k6)
    have pA := st4.ne nA
    have n0A : H0 Ar = none := k04.free st4 nA
    walk_at "my rn"
    refine ⟨by omega, by omega, for_it walk_range (fun i σ H' => ∃ (ps : List (Int × Int)) (y4 y5 : Option V), σ = [some (.ref l), some (.ref p), some (.int (1 + lim)), some (.ref Ar), y4, y5, none, none, none, none, none, none, none, none, none, none, none, none, none] ∧ ps.length = i ∧ PrsN H0 H' Ar ps ∧
      (∀ q ∈ ps, 0 < q.1 ∧ q.1 ≤ 400 ∧ 0 ≤ q.2 ∧ q.2 ≤ 1000) ∧ StOk H' p c ∧ Keep p c H0 H') ⟨[], none, none, rfl, rfl, ⟨[], k6 _ _ pA.1 pA.2 hA, rfl, by simp⟩, by simp, st6, k06⟩ (fun _ _ _ _ _ => trivial) ?_ ?_⟩
    · rintro i x σ H3 H1' hi ⟨ps, y4, y5, rfl, ln, hp, hb, st3, k3⟩ yy
      obtain ⟨rfl, e3⟩ := Rd.zr yy
      subst e3
      obtain ⟨vs, hvs, hvl, _⟩ := id hp
      walk_at "my rn"
      refine ⟨p, c, rfl, st3, fun ev H4 e0 e1 st4 k4 => ?_⟩
      have hv4 := k4 _ _ pA.1 pA.2 hvs
      walk_at "my rn"
      refine ⟨p, c, _, rfl, st4, by split <;> omega, by split <;> omega, fun b H5 b0 b1 st5 k5 => ?_⟩
      have k35 := k4.trans k5
      have hp5 := hp.keep n0A (keep_new st0 k35)
      have hv5 := k35 _ _ pA.1 pA.2 hvs
      walk_at "my rn"
      intro t H6 nt s6 ht
      have k06 := (k3.trans k35).trans (Keep.same s6)
      have st6 := st5.same s6
      have nt0 : H0 t = none := (k3.trans k35).free st5 nt
      have tA : t ≠ Ar := fun z => by rw [z, hv5] at nt; cases nt
      have hv6 := s6 _ _ hv5
      walk_at "my rn"
      refine Rd.app hv6 (Rd.szl (by omega)) ?_
      have hp6 : PrsN H0 H6 Ar ps := hp5.keep n0A fun b o _ e => s6 b o e
      refine ⟨ps ++ [(ev, b)], _, _, rfl, by simp [ln], hp6.push hv6 ht nt0 tA, fun q m => ?_, ?_, fun b o n1 n2 h => ?_⟩
      · rcases List.mem_append.mp m with m | m
        · exact hb q m
        · rw [List.mem_singleton.mp m]
          dsimp only
          refine ⟨by omega, by omega, by omega, ?_⟩
          have : (if (60 : Int) < ev then (60 : Int) else ev) ≤ 60 := by split <;> omega
          omega
      · obtain ⟨ms, sd, x, y, z, r⟩ := st6
        exact ⟨ms, sd, x, by rw [upd_ne pA.1.symm]; exact y, by rw [upd_ne pA.2.symm]; exact z, r⟩
      · have nb : b ≠ Ar := fun z => by rw [z, n0A] at h; cases h
        rw [upd_ne nb]
        exact k06 b o n1 n2 h
    · rintro σ H7 ⟨ps, y4, y5, rfl, ln, hp, hb, st7, k7⟩
      walk_at "my rn"
      refine ⟨p, c, _, rfl, st7, by decide, by decide, fun m H8 m0 m1 st8 k8 => ?_⟩
      walk_at "my rn"
      refine ⟨by omega, by omega, ?_⟩
      intro R nR
      have pR : R ≠ p ∧ R ≠ c := st8.ne nR
      refine lc_draw (fun v => 1 ≤ v ∧ v ≤ 400) st8 nR (by omega) (fun i H Kt hi st5 kt => ?_) (fun H9 es le he st9 k9 hR => ?_)
      · simp only [List.map_cons, List.map_nil, L2.wipe, List.set_cons_succ, List.set_cons_zero]
        walk_at "my rn"
        refine ⟨rfl, ?_⟩
        walk_at "my rn"
        refine ⟨p, c, rfl, st5, fun a H6 a0 a1 st6 k6 => ?_⟩
        exact kt _ _ ⟨by omega, by omega⟩ st6 k6
      have k79 := k8.trans k9
      have hp9 := hp.keep n0A (keep_new st0 k79)
      walk_at "my rn"
      refine ⟨p, c, _, rfl, st9, by decide, by decide, fun ow H10 o0 o1 st10 k10 => ?_⟩
      walk_at "my rn"
      refine ⟨p, c, _, rfl, st10, by decide, by decide, fun bl H11 b0 b1 st11 k11 => ?_⟩
      walk_at "my rn"
      refine ⟨p, c, _, rfl, st11, by decide, by decide, fun co H12 c0 c1 st12 k12 => ?_⟩
      walk_at "my rn"
      refine ⟨p, c, _, rfl, st12, by decide, by decide, fun sl H13 l0 l1 st13 k13 => ?_⟩
      have k9d := k10.trans (k11.trans (k12.trans k13))
      have hp13 := hp9.keep n0A (keep_new st0 k9d)
      have hR13 := k9d _ _ pR.1 pR.2 hR
      have hbp : ∀ q ∈ ps, 0 < q.1 ∧ q.1 < 1099511627776 ∧ 0 ≤ q.2 ∧ q.2 < 2 ^ 62 := fun q m => by
        have := hb q m
        omega
      have hbe : ∀ e ∈ es, 0 < e ∧ e < 1099511627776 := fun e m => by
        have := he e m
        omega
      walk_at "my rn"
      refine ⟨_, _, _, _, _, Ar, R, ps, es, rfl, hp13.prs, SqL.of hR13, hbp, hbe, c0, by omega, by omega, by omega, fun due hdue => ?_⟩
      walk_at "my rn"
      refine ⟨p, c, _, rfl, st13, by decide, by decide, fun d1 H14 d10 d11 st14 k14 => ?_⟩
      walk_at "my rn"
      refine ⟨p, c, _, rfl, st14, by decide, by decide, fun d2 H15 d20 d21 st15 k15 => ?_⟩
      walk_at "my rn"
      intro L3 H16 nL3 s16 hL3
      walk_at "my rn"
      refine ⟨p, c, _, rfl, st15.same s16, by decide, by decide, fun d3 H17 d30 d31 st17 k17 => ?_⟩
      have pL3 := st15.ne nL3
      have hL37 := k17 _ _ pL3.1 pL3.2 hL3
      obtain ⟨sc, sc0, sc1, hsc⟩ : ∃ sc : Int, 0 ≤ sc ∧ sc < 2500 ∧ atI [V.int 0, V.int d1, V.int d2] d3 = some (V.int sc) := by
        have : d3 = 0 ∨ d3 = 1 ∨ d3 = 2 := by omega
        rcases this with e | e | e
        · exact ⟨0, by omega, by omega, by rw [e]; rfl⟩
        · exact ⟨d1, by omega, by omega, by rw [e]; rfl⟩
        · exact ⟨d2, by omega, by omega, by rw [e]; rfl⟩
      refine Rd.ixL hL37 hsc ?_
      walk_at "my rn"
      refine ⟨p, c, _, rfl, st17, by omega, by omega, fun mo H18 mo0 mo1 st18 k18 => ?_⟩
      have k3e := k14.trans (k15.trans ((Keep.same s16).trans (k17.trans k18)))
      have hp18 := hp13.keep n0A (keep_new st0 k3e)
      have hR18 := k3e _ _ pR.1 pR.2 hR13
      obtain ⟨vs, hvs, hvl, hvt⟩ := id hp18
      walk_at "my rn"
      intro W nW
      refine Rd.lc_rel (walk_list (xs := vs)) (fun i v H => ∃ t q, v = .ref t ∧ t ≠ W ∧ ps[i]? = some q ∧ H t = some (.tup [.int (q.1 * (1 + sc)), .int (q.2 * (1 + sc))])) nW (by omega) (fun i v _ _ ⟨t, e, h1, n, h2, h3⟩ b => ⟨t, e, h1, n, h2, b _ _ n h3⟩) (fun H b => (b.to nW).seq (SqL.of hvs)) (fun i x H3 H4 Kt hi b hDl y kt => ?_) (fun H19 ms lm hm s19 hW => ?_)
      · obtain ⟨rfl, hx⟩ := y
        obtain ⟨q0, hqi⟩ : ∃ q, ps[i]? = some q := ⟨_, List.getElem?_eq_getElem (by omega)⟩
        obtain ⟨t, ht, hT, _, _⟩ := hvt i q0 hqi
        have hT4 := b.to nW _ _ hT
        rw [ht] at hx
        cases hx
        simp only [List.map_cons, List.map_nil, L2.wipe, List.set_cons_succ, List.set_cons_zero]
        walk_at "my rn"
        refine ⟨rfl, ?_⟩
        walk_at "my rn"
        refine Rd.I (Or.inr ⟨by omega, by omega⟩) ?_
        walk_at "my rn"
        refine Rd.I (Or.inr ⟨by omega, by omega⟩) ?_
        walk_at "my rn"
        intro t2 H5 nt s5 ht2
        obtain ⟨xsD, hxD⟩ := hDl
        exact kt _ _ ⟨t2, q0, rfl, fun z => (by rw [z, hxD] at nt; cases nt), hqi, ht2⟩ s5
      have hR19 := s19 _ _ hR18
      walk_at "my rn"
      intro X nX
      refine Rd.lc_rel (walk_list (xs := es.map V.int)) (fun i v H => ∀ q, es[i]? = some q → v = .int (q * (1 + sc))) nX (by rw [List.length_map]; omega) (fun i v _ _ h _ => h) (fun H b => (b.to nX).seq (SqL.of hR19)) (fun i x H3 H4 Kt hi b hDl y kt => ?_) (fun H20 ts lt ht s20 hX => ?_)
      · obtain ⟨rfl, hx⟩ := y
        rw [List.getElem?_map] at hx
        obtain ⟨e, hei, rfl⟩ : ∃ e, es[i]? = some e ∧ V.int e = x := by
          cases z : es[i]? with
          | none => rw [z] at hx; cases hx
          | some e => rw [z] at hx; exact ⟨e, rfl, Option.some.inj hx⟩
        simp only [List.map_cons, List.map_nil, L2.wipe, List.set_cons_succ, List.set_cons_zero]
        walk_at "my rn"
        refine ⟨rfl, ?_⟩
        walk_at "my rn"
        refine Rd.I (Or.inr ⟨by omega, by omega⟩) ?_
        walk_at "my rn"
        refine kt _ _ (fun q e2 => ?_) (Same.refl _)
        rw [hei] at e2
        cases e2
        rfl
      have em := vals_of (fun q : Int => q * (1 + sc)) (by rw [lt, List.length_map]) ht
      subst em
      walk_at "my rn"
      refine Rd.I (Or.inr ⟨by omega, by omega⟩) ?_
      walk_at "my rn"
      refine Rd.I (Or.inr ⟨by omega, by omega⟩) ?_
      walk_at "my rn"
      refine Rd.I (Or.inr ⟨by omega, by omega⟩) ?_
      walk_at "my rn"
      refine Rd.I (Or.inr ⟨by omega, by omega⟩) ?_
      walk_at "my rn"
      refine Rd.I (Or.inr ⟨by omega, by omega⟩) ?_
      walk_at "my rn"
      intro N H21 nN s21 hN
      have hW20 := s20 _ _ hW
      have hpW : PrsL K H21 W (ps.map fun p => (p.1 * (1 + sc), p.2 * (1 + sc))) := by
        refine ⟨ms, s21 _ _ hW20, by rw [lm, List.length_map]; exact hvl, fun i p e => ?_⟩
        rw [List.getElem?_map] at e
        cases z : ps[i]? with
        | none => rw [z] at e; cases e
        | some q0 =>
          rw [z] at e
          cases e
          have hlt := (List.getElem?_eq_some_iff.mp z).1
          obtain ⟨v, hv⟩ : ∃ v, ms[i]? = some v := ⟨_, List.getElem?_eq_getElem (by omega)⟩
          obtain ⟨t, q2, rfl, _, h2, h3⟩ := hm _ v hv
          rw [z] at h2
          cases h2
          exact ⟨t, hv, SqT.of (s21 _ _ (s20 _ _ h3))⟩
      have hX21 := s21 _ _ hX
      have sm : ∀ (a A : Int), 0 ≤ a → a ≤ A → 0 ≤ a * (1 + sc) ∧ a * (1 + sc) ≤ A * 2500 := fun a A h1 h2 =>
        ⟨Int.mul_nonneg h1 (by omega), Int.mul_le_mul h2 (by omega) (by omega) (by omega)⟩
      walk_at "my rn"
      refine ⟨_, _, _, _, _, W, X, _, _, rfl, hpW, SqL.of hX21, by rw [List.length_map]; omega, by rw [List.length_map]; omega, fun q0 m => ?_, fun e m => ?_, (sm _ 3 c0 (by omega)).1, ?_, ?_, (sm _ 20 b0 (by omega)).1, (sm _ 25 l0 (by omega)).1, ?_, fun act H22 s22 hact => ?_⟩
      · obtain ⟨x, hx, rfl⟩ := List.mem_map.mp m
        have h1 := hb x hx
        have h2 := sm x.1 400 (by omega) h1.2.1
        have h3 := sm x.2 1000 h1.2.2.1 h1.2.2.2
        have h4 := Int.mul_pos h1.1 (show 0 < 1 + sc by omega)
        dsimp only
        omega
      · obtain ⟨x, hx, rfl⟩ := List.mem_map.mp m
        have h1 := he x hx
        have h2 := sm x 400 (by omega) h1.2
        have h4 := Int.mul_pos (show 0 < x by omega) (show 0 < 1 + sc by omega)
        omega
      · have := (sm co 3 c0 (by omega)).2
        omega
      · exact Int.mul_pos (by omega) (by omega)
      · have := (sm (1 + lim) 1500 (by omega) (by omega)).1
        omega
      have fin := lst_scale (f := fun w => dmI w (1 + ow) bl ps es co sl) (g := fun w => dmI w ((1 + ow) * (1 + sc)) (bl * (1 + sc)) (ps.map fun p => (p.1 * (1 + sc), p.2 * (1 + sc))) (es.map (· * (1 + sc))) (co * (1 + sc)) (sl * (1 + sc)))
        (limit := 1 + lim) (more := mo) (s := 1 + sc) (x := due) (y := act) (by omega) mo0 mo1 (fun n m e => dm_mono (fun q0 m => ⟨(hb q0 m).1, (hb q0 m).2.2.1⟩) (fun e m => by have := he e m; omega) c0 e)
        (fun n hn => ?_) (fun w => dm_scale (by omega) (fun q0 m => (hb q0 m).1) (fun e m => by have := he e m; omega)) hdue hact
      rotate_left
      · have h1 : 0 ≤ sA n ps := by
          have := sA_nn (w := n) (ps := ps) (by omega) fun q0 m => ⟨(hb q0 m).1, (hb q0 m).2.2.1⟩
          exact this
        have h2 : 0 ≤ sR (n + sl) co es := by
          rw [sR_pairs]
          refine sA_nn (by omega) fun q0 m => ?_
          obtain ⟨x, hx, rfl⟩ := List.mem_map.mp m
          exact ⟨by have := he x hx; dsimp only; omega, c0⟩
        show 1 ≤ dmI n (1 + ow) bl ps es co sl
        unfold dmI
        omega
      rcases fin with ⟨u, rfl, rfl⟩ | ⟨rfl, rfl⟩
      · walk_at "my rn"
        rw [decide_eq_false (by intro e; cases e)]
        refine Rd.ifF ?_
        walk_at "my rn"
        refine Rd.I (Or.inr ⟨by omega, by omega⟩) ?_
        walk_at "my rn"
        rw [decide_eq_true rfl]
        exact q _
      · walk_at "my rn"
        rw [decide_eq_true rfl]
        refine Rd.ifT ?_
        walk_at "my rn"
        rw [decide_eq_true rfl]
        exact q _
end

def top_mk {P : Program} {w : World} {K : PySem.W.Frag} {h : Heap} {mg : Str → Option Value} (X : K.In h) (G : h.Ns mainGlobals mg)
    {a__times_in : Addr} {od__times_in an__times_in : Option Addr} {sl__times_in : Array (Option Value)} {oc__times_in kV__times_in dc__times_in pm__times_in cd__times_in ct__times_in : Value}
    {a_demand : Addr} {od_demand an_demand : Option Addr} {sl_demand : Array (Option Value)} {oc_demand kV_demand dc_demand pm_demand cd_demand ct_demand : Value}
    {a__needs_all : Addr} {od__needs_all an__needs_all : Option Addr} {sl__needs_all : Array (Option Value)} {oc__needs_all kV__needs_all dc__needs_all pm__needs_all cd__needs_all ct__needs_all : Value}
    {a_response_time : Addr} {od_response_time an_response_time : Option Addr} {sl_response_time : Array (Option Value)} {oc_response_time kV_response_time dc_response_time pm_response_time cd_response_time ct_response_time : Value}
    {a__law_state : Addr} {od__law_state an__law_state : Option Addr} {sl__law_state : Array (Option Value)} {oc__law_state kV__law_state dc__law_state pm__law_state cd__law_state ct__law_state : Value}
    {a__law_draw : Addr} {od__law_draw an__law_draw : Option Addr} {sl__law_draw : Array (Option Value)} {oc__law_draw kV__law_draw dc__law_draw pm__law_draw cd__law_draw ct__law_draw : Value}
    {a__law_up : Addr} {od__law_up an__law_up : Option Addr} {sl__law_up : Array (Option Value)} {oc__law_up kV__law_up dc__law_up pm__law_up cd__law_up ct__law_up : Value}
    {a__law_demand : Addr} {od__law_demand an__law_demand : Option Addr} {sl__law_demand : Array (Option Value)} {oc__law_demand kV__law_demand dc__law_demand pm__law_demand cd__law_demand ct__law_demand : Value}
    {a__law_every : Addr} {od__law_every an__law_every : Option Addr} {sl__law_every : Array (Option Value)} {oc__law_every kV__law_every dc__law_every pm__law_every cd__law_every ct__law_every : Value}
    {a__law_due : Addr} {od__law_due an__law_due : Option Addr} {sl__law_due : Array (Option Value)} {oc__law_due kV__law_due dc__law_due pm__law_due cd__law_due ct__law_due : Value}
    {a_law : Addr} {od_law an_law : Option Addr} {sl_law : Array (Option Value)} {oc_law kV_law dc_law pm_law cd_law ct_law : Value}
    (n__times_in : PySem.W.nsIn K mainGlobals "_times_in" = some (some (.ref a__times_in)))
    (n_demand : PySem.W.nsIn K mainGlobals "demand" = some (some (.ref a_demand)))
    (n__needs_all : PySem.W.nsIn K mainGlobals "_needs_all" = some (some (.ref a__needs_all)))
    (n_response_time : PySem.W.nsIn K mainGlobals "response_time" = some (some (.ref a_response_time)))
    (n__law_state : PySem.W.nsIn K mainGlobals "_law_state" = some (some (.ref a__law_state)))
    (n__law_draw : PySem.W.nsIn K mainGlobals "_law_draw" = some (some (.ref a__law_draw)))
    (n__law_up : PySem.W.nsIn K mainGlobals "_law_up" = some (some (.ref a__law_up)))
    (n__law_demand : PySem.W.nsIn K mainGlobals "_law_demand" = some (some (.ref a__law_demand)))
    (n__law_every : PySem.W.nsIn K mainGlobals "_law_every" = some (some (.ref a__law_every)))
    (n__law_due : PySem.W.nsIn K mainGlobals "_law_due" = some (some (.ref a__law_due)))
    (n_law : PySem.W.nsIn K mainGlobals "law" = some (some (.ref a_law)))
    (l__times_in : K.lookup a__times_in = some ⟨oc__times_in, od__times_in, .func (PySem.W.fnOf "_times_in" "_times_in" (defArgs s__times_in) (defBody s__times_in) (defScope s__times_in) .none kV__times_in dc__times_in pm__times_in an__times_in cd__times_in ct__times_in), sl__times_in⟩)
    (c__times_in : PySem.W.codeIn K cd__times_in "_times_in" = true)
    (k__times_in : PySem.W.keepIn K (.ref a__times_in) = true)
    (l_demand : K.lookup a_demand = some ⟨oc_demand, od_demand, .func (PySem.W.fnOf "demand" "demand" (defArgs s_demand) (defBody s_demand) (defScope s_demand) .none kV_demand dc_demand pm_demand an_demand cd_demand ct_demand), sl_demand⟩)
    (c_demand : PySem.W.codeIn K cd_demand "demand" = true)
    (k_demand : PySem.W.keepIn K (.ref a_demand) = true)
    (l__needs_all : K.lookup a__needs_all = some ⟨oc__needs_all, od__needs_all, .func (PySem.W.fnOf "_needs_all" "_needs_all" (defArgs s__needs_all) (defBody s__needs_all) (defScope s__needs_all) .none kV__needs_all dc__needs_all pm__needs_all an__needs_all cd__needs_all ct__needs_all), sl__needs_all⟩)
    (c__needs_all : PySem.W.codeIn K cd__needs_all "_needs_all" = true)
    (k__needs_all : PySem.W.keepIn K (.ref a__needs_all) = true)
    (l_response_time : K.lookup a_response_time = some ⟨oc_response_time, od_response_time, .func (PySem.W.fnOf "response_time" "response_time" (defArgs s_response_time) (defBody s_response_time) (defScope s_response_time) .none kV_response_time dc_response_time pm_response_time an_response_time cd_response_time ct_response_time), sl_response_time⟩)
    (c_response_time : PySem.W.codeIn K cd_response_time "response_time" = true)
    (k_response_time : PySem.W.keepIn K (.ref a_response_time) = true)
    (l__law_state : K.lookup a__law_state = some ⟨oc__law_state, od__law_state, .func (PySem.W.fnOf "_law_state" "_law_state" (defArgs s__law_state) (defBody s__law_state) (defScope s__law_state) .none kV__law_state dc__law_state pm__law_state an__law_state cd__law_state ct__law_state), sl__law_state⟩)
    (c__law_state : PySem.W.codeIn K cd__law_state "_law_state" = true)
    (k__law_state : PySem.W.keepIn K (.ref a__law_state) = true)
    (l__law_draw : K.lookup a__law_draw = some ⟨oc__law_draw, od__law_draw, .func (PySem.W.fnOf "_law_draw" "_law_draw" (defArgs s__law_draw) (defBody s__law_draw) (defScope s__law_draw) .none kV__law_draw dc__law_draw pm__law_draw an__law_draw cd__law_draw ct__law_draw), sl__law_draw⟩)
    (c__law_draw : PySem.W.codeIn K cd__law_draw "_law_draw" = true)
    (k__law_draw : PySem.W.keepIn K (.ref a__law_draw) = true)
    (l__law_up : K.lookup a__law_up = some ⟨oc__law_up, od__law_up, .func (PySem.W.fnOf "_law_up" "_law_up" (defArgs s__law_up) (defBody s__law_up) (defScope s__law_up) .none kV__law_up dc__law_up pm__law_up an__law_up cd__law_up ct__law_up), sl__law_up⟩)
    (c__law_up : PySem.W.codeIn K cd__law_up "_law_up" = true)
    (k__law_up : PySem.W.keepIn K (.ref a__law_up) = true)
    (l__law_demand : K.lookup a__law_demand = some ⟨oc__law_demand, od__law_demand, .func (PySem.W.fnOf "_law_demand" "_law_demand" (defArgs s__law_demand) (defBody s__law_demand) (defScope s__law_demand) .none kV__law_demand dc__law_demand pm__law_demand an__law_demand cd__law_demand ct__law_demand), sl__law_demand⟩)
    (c__law_demand : PySem.W.codeIn K cd__law_demand "_law_demand" = true)
    (k__law_demand : PySem.W.keepIn K (.ref a__law_demand) = true)
    (l__law_every : K.lookup a__law_every = some ⟨oc__law_every, od__law_every, .func (PySem.W.fnOf "_law_every" "_law_every" (defArgs s__law_every) (defBody s__law_every) (defScope s__law_every) .none kV__law_every dc__law_every pm__law_every an__law_every cd__law_every ct__law_every), sl__law_every⟩)
    (c__law_every : PySem.W.codeIn K cd__law_every "_law_every" = true)
    (k__law_every : PySem.W.keepIn K (.ref a__law_every) = true)
    (l__law_due : K.lookup a__law_due = some ⟨oc__law_due, od__law_due, .func (PySem.W.fnOf "_law_due" "_law_due" (defArgs s__law_due) (defBody s__law_due) (defScope s__law_due) .none kV__law_due dc__law_due pm__law_due an__law_due cd__law_due ct__law_due), sl__law_due⟩)
    (c__law_due : PySem.W.codeIn K cd__law_due "_law_due" = true)
    (k__law_due : PySem.W.keepIn K (.ref a__law_due) = true)
    (l_law : K.lookup a_law = some ⟨oc_law, od_law, .func (PySem.W.fnOf "law" "law" (defArgs s_law) (defBody s_law) (defScope s_law) .none kV_law dc_law pm_law an_law cd_law ct_law), sl_law⟩)
    (c_law : PySem.W.codeIn K cd_law "law" = true)
    (k_law : PySem.W.keepIn K (.ref a_law) = true)
    (z_sum : PySem.W.nsIn K mainGlobals "sum" = some none)
    (z_abs : PySem.W.nsIn K mainGlobals "abs" = some none)
    (z_int : PySem.W.nsIn K mainGlobals "int" = some none)
    (z_len : PySem.W.nsIn K mainGlobals "len" = some none)
    (z_range : PySem.W.nsIn K mainGlobals "range" = some none)
    (z_bool : PySem.W.nsIn K mainGlobals "bool" = some none)
    (z_isinstance : PySem.W.nsIn K mainGlobals "isinstance" = some none)
    (z_min : PySem.W.nsIn K mainGlobals "min" = some none) :
    Top K mg :=
  { a__times_in := a__times_in,
    d__times_in := _,
    F__times_in := fun_mk (st := s__times_in) l__times_in c__times_in k__times_in,
    g__times_in := PySem.W.mg_of X G n__times_in,
    b__times_in := (fun_mk (st := s__times_in) l__times_in c__times_in k__times_in).binds (ps := ["window", "every"]) fun _ _ _ _ _ _ us hl => match us, hl with | [_, _], _ => rfl,
    a_demand := a_demand,
    d_demand := _,
    F_demand := fun_mk (st := s_demand) l_demand c_demand k_demand,
    g_demand := PySem.W.mg_of X G n_demand,
    b_demand := (fun_mk (st := s_demand) l_demand c_demand k_demand).binds (ps := ["window", "own", "blocked", "above", "releases", "release_cost", "slack"]) fun _ _ _ _ _ _ us hl => match us, hl with | [_, _, _, _, _, _, _], _ => rfl,
    a__needs_all := a__needs_all,
    d__needs_all := _,
    F__needs_all := fun_mk (st := s__needs_all) l__needs_all c__needs_all k__needs_all,
    g__needs_all := PySem.W.mg_of X G n__needs_all,
    b__needs_all := (fun_mk (st := s__needs_all) l__needs_all c__needs_all k__needs_all).binds (ps := ["pairs"]) fun _ _ _ _ _ _ us hl => match us, hl with | [_], _ => rfl,
    a_response_time := a_response_time,
    d_response_time := _,
    F_response_time := fun_mk (st := s_response_time) l_response_time c_response_time k_response_time,
    g_response_time := PySem.W.mg_of X G n_response_time,
    b_response_time := (fun_mk (st := s_response_time) l_response_time c_response_time k_response_time).binds (ps := ["limit", "own", "blocked", "above", "releases", "release_cost", "slack"]) fun _ _ _ _ _ _ us hl => match us, hl with | [_, _, _, _, _, _, _], _ => rfl,
    a__law_state := a__law_state,
    d__law_state := _,
    F__law_state := fun_mk (st := s__law_state) l__law_state c__law_state k__law_state,
    g__law_state := PySem.W.mg_of X G n__law_state,
    b__law_state := (fun_mk (st := s__law_state) l__law_state c__law_state k__law_state).binds (ps := ["script"]) fun _ _ _ _ _ _ us hl => match us, hl with | [_], _ => rfl,
    a__law_draw := a__law_draw,
    d__law_draw := _,
    F__law_draw := fun_mk (st := s__law_draw) l__law_draw c__law_draw k__law_draw,
    g__law_draw := PySem.W.mg_of X G n__law_draw,
    b__law_draw := (fun_mk (st := s__law_draw) l__law_draw c__law_draw k__law_draw).binds (ps := ["state", "many"]) fun _ _ _ _ _ _ us hl => match us, hl with | [_, _], _ => rfl,
    a__law_up := a__law_up,
    d__law_up := _,
    F__law_up := fun_mk (st := s__law_up) l__law_up c__law_up k__law_up,
    g__law_up := PySem.W.mg_of X G n__law_up,
    b__law_up := (fun_mk (st := s__law_up) l__law_up c__law_up k__law_up).binds (ps := ["n", "d"]) fun _ _ _ _ _ _ us hl => match us, hl with | [_, _], _ => rfl,
    a__law_demand := a__law_demand,
    d__law_demand := _,
    F__law_demand := fun_mk (st := s__law_demand) l__law_demand c__law_demand k__law_demand,
    g__law_demand := PySem.W.mg_of X G n__law_demand,
    b__law_demand := (fun_mk (st := s__law_demand) l__law_demand c__law_demand k__law_demand).binds (ps := ["window", "own", "blocked", "above", "releases", "cost", "slack"]) fun _ _ _ _ _ _ us hl => match us, hl with | [_, _, _, _, _, _, _], _ => rfl,
    a__law_every := a__law_every,
    d__law_every := _,
    F__law_every := fun_mk (st := s__law_every) l__law_every c__law_every k__law_every,
    g__law_every := PySem.W.mg_of X G n__law_every,
    b__law_every := (fun_mk (st := s__law_every) l__law_every c__law_every k__law_every).binds (ps := ["state"]) fun _ _ _ _ _ _ us hl => match us, hl with | [_], _ => rfl,
    a__law_due := a__law_due,
    d__law_due := _,
    F__law_due := fun_mk (st := s__law_due) l__law_due c__law_due k__law_due,
    g__law_due := PySem.W.mg_of X G n__law_due,
    b__law_due := (fun_mk (st := s__law_due) l__law_due c__law_due k__law_due).binds (ps := ["limit", "own", "blocked", "above", "releases", "cost", "slack"]) fun _ _ _ _ _ _ us hl => match us, hl with | [_, _, _, _, _, _, _], _ => rfl,
    a_law := a_law,
    d_law := _,
    F_law := fun_mk (st := s_law) l_law c_law k_law,
    g_law := PySem.W.mg_of X G n_law,
    b_law := (fun_mk (st := s_law) l_law c_law k_law).binds (ps := ["script"]) fun _ _ _ _ _ _ us hl => match us, hl with | [_], _ => rfl,
    m_sum := PySem.W.mg_none_of X G z_sum,
    m_abs := PySem.W.mg_none_of X G z_abs,
    m_int := PySem.W.mg_none_of X G z_int,
    m_len := PySem.W.mg_none_of X G z_len,
    m_range := PySem.W.mg_none_of X G z_range,
    m_bool := PySem.W.mg_none_of X G z_bool,
    m_isinstance := PySem.W.mg_none_of X G z_isinstance,
    m_min := PySem.W.mg_none_of X G z_min }
theorem all_mk {l : PySem.W.OpenLaw} {w : World} {K : PySem.W.Frag} {mg : Str → Option Value} {fa : Addr} (T : Top K mg) (hfa : mg "law" = some (.ref fa)) :
    ∃ fd : FuncData, (∀ (s : Shared) (v : Value), BindsTo s fd ⟨[v], []⟩ [("script", v)]) ∧ ∀ base : Heap, K.In base → base.Ns mainGlobals mg → FnOk l.prog w K mg base CX0 4 fa fd ["script"] (sp_law K) := by
  have e := hfa.symm.trans T.g_law
  cases e
  refine ⟨T.d_law, fun s v => ?_, fun base _ _ => ok_law T⟩
  obtain ⟨oc, od, kV, doc, pm, an, cdv, ct, osl, e, lk, hcd⟩ := T.F_law.ex
  rw [e]
  exact .of_eq rfl
end Mine
open PySem PySem.W PyProof.Rows
set_option maxHeartbeats 0 in
theorem PySem.Challenge.cw_deadbeat_k45_least_window_holds : PySem.Challenge.rw_deadbeat_k45_least_window.Holds := by
  w_on; o_law; k_head; (case hw => w_witness2)
  k_fill
  refine L2.walk_of (l := PySem.Challenge.rw_deadbeat_k45_least_window) (n := 63) (k := 4) (x := "script") (CX := fun _ => L2.CX0) (sp := fun w => Mine.sp_law _) rfl (by decide) rfl ⟨rfl, by decide, by decide⟩ (fun w h Y => PySem.W.kIn_of Y) ?F (fun _ _ a ns hl _ hS => ⟨a, ns, rfl, hS, hl, fun _ => rfl⟩) (fun _ _ _ _ _ h => h)
  case F =>
    intro w mg fa h KX G hmg
    refine' Mine.all_mk (Mine.top_mk (P := PySem.Challenge.rw_deadbeat_k45_least_window.prog) (w := w) KX G ?n__times_in ?n_demand ?n__needs_all ?n_response_time ?n__law_state ?n__law_draw ?n__law_up ?n__law_demand ?n__law_every ?n__law_due ?n_law ?l__times_in ?c__times_in ?k__times_in ?l_demand ?c_demand ?k_demand ?l__needs_all ?c__needs_all ?k__needs_all ?l_response_time ?c_response_time ?k_response_time ?l__law_state ?c__law_state ?k__law_state ?l__law_draw ?c__law_draw ?k__law_draw ?l__law_up ?c__law_up ?k__law_up ?l__law_demand ?c__law_demand ?k__law_demand ?l__law_every ?c__law_every ?k__law_every ?l__law_due ?c__law_due ?k__law_due ?l_law ?c_law ?k_law ?z_sum ?z_abs ?z_int ?z_len ?z_range ?z_bool ?z_isinstance ?z_min) hmg
    (case n__times_in => k_is); (case n_demand => k_is); (case n__needs_all => k_is); (case n_response_time => k_is); (case n__law_state => k_is); (case n__law_draw => k_is); (case n__law_up => k_is); (case n__law_demand => k_is); (case n__law_every => k_is); (case n__law_due => k_is); (case n_law => k_is); (case l__times_in => k_is); (case c__times_in => k_is); (case k__times_in => k_is); (case l_demand => k_is); (case c_demand => k_is); (case k_demand => k_is); (case l__needs_all => k_is); (case c__needs_all => k_is); (case k__needs_all => k_is); (case l_response_time => k_is); (case c_response_time => k_is); (case k_response_time => k_is); (case l__law_state => k_is); (case c__law_state => k_is); (case k__law_state => k_is); (case l__law_draw => k_is); (case c__law_draw => k_is); (case k__law_draw => k_is); (case l__law_up => k_is); (case c__law_up => k_is); (case k__law_up => k_is); (case l__law_demand => k_is); (case c__law_demand => k_is); (case k__law_demand => k_is); (case l__law_every => k_is); (case c__law_every => k_is); (case k__law_every => k_is); (case l__law_due => k_is); (case c__law_due => k_is); (case k__law_due => k_is); (case l_law => k_is); (case c_law => k_is); (case k_law => k_is); (case z_sum => k_is); (case z_abs => k_is); (case z_int => k_is); (case z_len => k_is); (case z_range => k_is); (case z_bool => k_is); (case z_isinstance => k_is); (case z_min => k_is)
