import PyProof.Rows.All
import Wide.All
import OpenK.AllK
import Wide.FinOn
import PyProof.RulesMatch
import HandS.Base
import HandS.Call
import HandS.Words
import HandS.IsInst
import HandS.ForExc
import HandS.Zip
import HandS.Walk
import HandS.Strs
import HandS.ForMost
import HandS.Evl
import HandS.SortInts
import HandS.List
import PySem.Challenge.RW_deadbeat_k53_levels_rise
import HandS.Wide
import HandS.WideBits
import HandS.Style
import HandS.StrMore
import HandS.IntHex
import HandS.ReSub
import HandS.Codes
import HandS.RaiseMore
import HandS.More
import HandS.SetFor
import HandS.TupLe
import HandS.SortRule
import HandS.Deep
import HandS.DeepEq
set_option Elab.async false
set_option linter.all false
set_option maxRecDepth 100000
namespace L2
open PySem PySem.Spec PyProof.Rows
/-- the cases of a match over texts: a written text or whatever is left, and what is done -/
def tCases (z : Str) : List (Option Str × TS) → TS
  | [] => fun D σ H => D.nx σ H
  | (none, t) :: _ => t
  | (some c, t) :: r => fun D σ H => if z = c then t D σ H else tCases z r D σ H
def tMatch (te : TE) (l : List (Option Str × TS)) : TS := fun D σ H => te σ H fun x H1 => ∃ z : Str, x = .str z ∧ tCases z l D σ H1
inductive PCs (X : Cx) : List MatchCase → List (Option Str × TS) → Prop
  | nil : PCs X [] []
  | rest {body : List Stmt} {t : TS} {p : Pos} {r : List MatchCase} : PSs X body t → PCs X (⟨.MatchAs none none p, none, body⟩ :: r) [(none, t)]
  | text {body : List Stmt} {t : TS} {c : Str} {j : Nat} {p p2 : Pos} {r : List MatchCase} {l : List (Option Str × TS)} : PSs X body t → PCs X r l →
      PCs X (⟨.MatchValue (.Constant (.str c) j p) p2, none, body⟩ :: r) ((some c, t) :: l)
theorem run_cases {X : Cx} {z : Str} {u : Value} (ru : RelV (.str z) u) : ∀ {cs : List MatchCase} {l : List (Option Str × TS)}, PCs X cs l → ∀ (first : Bool) (pins : List (Addr × Obj)) (s : Shared) (σ : St) (H : Hp) (D : Ends), Inv X pins σ H s → tCases z l D σ H →
    wpAny (model X.prog X.w) X.A (matchCases cs X.env u first) (SP X pins D) X.xe s
  | _, _, .nil, first, pins, s, σ, H, D, I, h => wpAny_matchCases_nil ⟨σ, H, I, h⟩
  | _, _, .rest hb, first, pins, s, σ, H, D, I, h => by
    refine wpAny_matchCases_cons (wpAny_matchPattern_Capture ?_)
    exact wpAny_assignInOrder_none (hb.run pins s σ H D I h)
  | _, _, .text (c := c) (l := l) hb hr, first, pins, s, σ, H, D, I, h => by
    refine wpAny_matchCases_cons (wpAny_matchPattern_Value ?_)
    refine thn ((pe_str (X := X) (x := c)).run pins s σ H (fun v H' => v = .str c ∧ H' = H) I ⟨rfl, rfl⟩) fun v s1 hh => ?_
    obtain ⟨x, H1, I1, rx, ex, eH⟩ := hh
    subst ex
    subst eH
    refine thn (op_eq pins s1 σ H1 (.str z) (.str c) u v (fun y H' => y = .bl (decide (V.str z = V.str c)) ∧ H' = H1) I1 ru rx ⟨rfl, rfl, rfl⟩) fun y s2 hh => ?_
    obtain ⟨x, H2, I2, rx2, ex, eH⟩ := hh
    subst ex
    subst eH
    cases rx2
    refine wpAny_truthy_bool ?_
    have h' : (if z = c then _ else _) := h
    by_cases e : z = c
    · rw [if_pos e] at h'
      rw [decide_eq_true (by rw [e])]
      exact wpAny_assignInOrder_none (hb.run pins s2 σ H2 D I2 h')
    · rw [if_neg e] at h'
      rw [decide_eq_false (fun q => e (by injection q))]
      exact run_cases ru hr false pins s2 σ H2 D I2 h'
theorem ps_match {X : Cx} {e : Expr} {te : TE} {cs : List MatchCase} {l : List (Option Str × TS)} {pos : Pos} (he : PE X e te) (hc : PCs X cs l) : PS X (.Match e cs pos) (tMatch te l) := by
  refine ⟨fun pins s σ H D I h => wpAny_Match ?_⟩
  refine thn (he.run pins s σ H _ I h) fun u s1 hh => ?_
  obtain ⟨x, H1, I1, rx, z, ez, hz⟩ := hh
  subst ez
  exact run_cases rx hc true pins s1 σ H1 D I1 hz
/-- a module's constant: an int, a text, an object -/
theorem pe_gi {X : Cx} {x : Str} {n : Int} {t : Tok} {pos : Pos} (hg : Gl X x) (hm : X.mg x = some (.int n t)) (hd : (x == ("__debug__" : Str)) = false := by decide) : PE X (.Name x pos) (tC (.int n)) := pe_glob hg hm ⟨_, rfl⟩ hd
theorem pe_gs {X : Cx} {x : Str} {z : Str} {t : Tok} {pos : Pos} (hg : Gl X x) (hm : X.mg x = some (.str z t)) (hd : (x == ("__debug__" : Str)) = false := by decide) : PE X (.Name x pos) (tC (.str z)) := pe_glob hg hm ⟨_, rfl⟩ hd
theorem pe_gr {X : Cx} {x : Str} {a : Addr} {pos : Pos} (hg : Gl X x) (hm : X.mg x = some (.ref a)) (hd : (x == ("__debug__" : Str)) = false := by decide) : PE X (.Name x pos) (tC (.ref a)) := pe_glob (v := .ref a) hg hm rfl hd
/-- a built-in type as a value -/
theorem pe_ty {X : Cx} {x : Str} {T : String} {pos : Pos} (hg : Gl X x) (hm : X.mg x = none) (hv : bootBuiltins x = some (.type T)) (hn : x ≠ "__name__" := by decide) (hd : (x == ("__debug__" : Str)) = false := by decide) : PE X (.Name x pos) (tC (.ty T)) :=
  ⟨fun _ s _ H _ I h => ld_blt I hg hm hv ⟨.ty T, H, I, rfl, h⟩ hn hd⟩
/-- isinstance of a plain value and a built-in type -/
theorem isi_int {K : PySem.W.Frag} {H : Hp} {Q : VK} {i : Int} (q : Q (.bl true) H) : rIsi K [.int i, .ty "int"] H Q := ⟨_, _, _, _, true, rfl, .ty _, .base (.int _), kit_ty (by decide +kernel), q⟩
theorem isi_int_bool {K : PySem.W.Frag} {H : Hp} {Q : VK} {i : Int} (q : Q (.bl false) H) : rIsi K [.int i, .ty "bool"] H Q := ⟨_, _, _, _, false, rfl, .ty _, .base (.int _), kit_ty (by decide +kernel), q⟩
theorem Same.none {H H' : Hp} (e : Same H H') {p : Addr} (h : H' p = Option.none) : H p = Option.none := Same.free e h
theorem same_new {H : Hp} {p : Addr} {o : HO} (h : H p = Option.none) : Same H (upd H p o) := fun b x e => by
  rw [upd_ne (ne_of_none e h)]
  exact e
theorem or_test {t u : TT} {σ : St} {H : Hp} {a b : Bool} {Q : Bool → Hp → Prop} (h1 : ∀ Q' : Bool → Hp → Prop, Q' a H → t σ H Q') (h2 : a = false → ∀ Q' : Bool → Hp → Prop, Q' b H → u σ H Q') (q : Q (a || b) H) : tOr t u σ H Q := by
  refine h1 _ ?_
  cases a with
  | true => exact iteT q
  | false => exact iteF (h2 rfl _ q)
theorem and_test {t u : TT} {σ : St} {H : Hp} {a b : Bool} {Q : Bool → Hp → Prop} (h1 : ∀ Q' : Bool → Hp → Prop, Q' a H → t σ H Q') (h2 : a = true → ∀ Q' : Bool → Hp → Prop, Q' b H → u σ H Q') (q : Q (a && b) H) : tAnd t u σ H Q := by
  refine h1 _ ?_
  cases a with
  | true => exact iteT (h2 rfl _ q)
  | false => exact iteF q
theorem if_or {t u : TT} {a b : Bool} {A B : TS} {D : Ends} {σ : St} {H : Hp} (h1 : ∀ Q' : Bool → Hp → Prop, Q' a H → t σ H Q') (h2 : a = false → ∀ Q' : Bool → Hp → Prop, Q' b H → u σ H Q') (q : if (a || b) = true then A D σ H else B D σ H) : tIfS (tOr t u) A B D σ H := or_test h1 h2 q
theorem if_and {t u : TT} {a b : Bool} {A B : TS} {D : Ends} {σ : St} {H : Hp} (h1 : ∀ Q' : Bool → Hp → Prop, Q' a H → t σ H Q') (h2 : a = true → ∀ Q' : Bool → Hp → Prop, Q' b H → u σ H Q') (q : if (a && b) = true then A D σ H else B D σ H) : tIfS (tAnd t u) A B D σ H := and_test h1 h2 q
theorem Same.off {H H1 : Hp} {D : Addr} {x : HO} (k : Same H H1) (n : H D = Option.none) : Same H (upd H1 D x) := fun b y e => by
  rw [upd_ne (ne_of_none e n)]
  exact k b y e
theorem Same.seqT {K : PySem.W.Frag} {H H' : Hp} {a : Addr} {xs : List V} (e : Same H H') (h : SqT K H a xs) : SqT K H' a xs := by
  rcases h with h | h
  · rcases h with h | ⟨o, h⟩
    · exact .inl (.inl (e _ _ h))
    · exact .inl (.inr ⟨o, e _ _ h⟩)
  · exact .inr h
/-- a def that may raise, called where it does not -/
theorem pass_no {X : Cx} : Passes (L2.CX X.prog X.w) X (fun _ _ _ => False) := fun _ _ _ _ _ _ _ c => by
  obtain ⟨_, _, _, _, _, _, _, _, _, _, _, _, z⟩ := c
  exact z.elim
def rListOf (K : PySem.W.Frag) : List V → Hp → VK → Prop := fun xs H Q => ∃ p ys, xs = [V.ref p] ∧ (SqL K H p ys ∨ SqT K H p ys) ∧ ∀ l, H l = Option.none → Q (.ref l) (upd H l (.lst ys))
theorem if_t {b : Bool} {A B : Prop} (h : b = true) (q : A) : if b = true then A else B := by
  rw [if_pos h]
  exact q
theorem if_f {b : Bool} {A B : Prop} (h : b = false) (q : B) : if b = true then A else B := by
  rw [if_neg (by rw [h]; exact Bool.noConfusion)]
  exact q
/-- a tuple of the written part, as it stands there -/
theorem sqT_lit {K : PySem.W.Frag} {p : Addr} {dd : Option Addr} {us : Array Value} {n : Nat} {sl : Array (Option Value)} {xs : List V} {H : Hp} (w : K.lookup p = some ⟨.type "tuple", dd, .seq us n, sl⟩) (y : Vals xs us.toList) (hl : xs.length ≤ sizeLine := by decide) : SqT K H p xs :=
  .inr ⟨_, us, n, w, rfl, rfl, Nat.le_trans (Nat.le_of_eq (by rw [← Array.length_toList]; exact (Paired.length y).symm)) hl, y⟩
end L2

set_option Elab.async false
set_option linter.all false
set_option maxRecDepth 100000
namespace Rd
open PySem PySem.Spec PyProof.Rows L2
variable {K : PySem.W.Frag} {σ : L2.St} {H : Hp} {D : Ends} {Q : VK} {ta tb te tc : TE} {t u c : TT} {ts tu : TS} {g : TG} {x y v : V} {vs : List V} {tr : TA} {a b : Option V} {r : L2.St}
theorem seq (h : ts { D with nx := tu D } σ H) : tSeq ts tu D σ H := h
theorem next (h : D.nx σ H) : tNext D σ H := h
theorem brk (h : D.bk σ H) : tBreak D σ H := h
theorem cont (h : D.ct σ H) : tCont D σ H := h
theorem asg (h : te σ H fun x H1 => g x σ H1 D.nx) : tAsg te g D σ H := h
theorem ret (h : te σ H D.rt) : tRet te D σ H := h
theorem retN (h : D.rt .non H) : tRetN D σ H := h
theorem drop (h : te σ H fun _ H1 => D.nx σ H1) : tDrop te D σ H := h
theorem ifs (h : c σ H fun b H1 => if b = true then ts D σ H1 else tu D σ H1) : tIfS c ts tu D σ H := h
theorem ife (h : t σ H fun b H1 => if b = true then ta σ H1 Q else tb σ H1 Q) : tIf t ta tb σ H Q := h
theorem test {Q : Bool → Hp → Prop} (h : te σ H fun x H1 => ∃ k, x = .bl k ∧ Q k H1) : tTest te σ H Q := h
theorem tb_ {Q : Bool → Hp → Prop} (h : te σ H fun x H1 => ∃ k, x = .bl k ∧ Q k H1) : tB te σ H Q := h
theorem bl {b : Bool} {Q : Bool → Hp → Prop} (h : Q b H) : ∃ k, V.bl b = .bl k ∧ Q k H := ⟨b, rfl, h⟩
theorem bl2 {b : Bool} {P : Bool → Prop} (h : P b) : ∃ k, V.bl b = .bl k ∧ P k := ⟨b, rfl, h⟩
theorem and_ {Q : Bool → Hp → Prop} (h : t σ H fun c H1 => if c = true then u σ H1 Q else Q false H1) : tAnd t u σ H Q := h
theorem or_ {Q : Bool → Hp → Prop} (h : t σ H fun c H1 => if c = true then Q true H1 else u σ H1 Q) : tOr t u σ H Q := h
theorem not_ {Q : Bool → Hp → Prop} (h : t σ H fun c H1 => Q (!c) H1) : tNot t σ H Q := h
theorem andV (h : ta σ H fun x H1 => ∃ c, x = .bl c ∧ if c = true then tb σ H1 Q else Q (.bl false) H1) : tAndV ta tb σ H Q := h
theorem orV (h : ta σ H fun x H1 => ∃ c, x = .bl c ∧ if c = true then Q (.bl true) H1 else tb σ H1 Q) : tOrV ta tb σ H Q := h
theorem notV (h : ta σ H fun x H1 => ∃ c, x = .bl c ∧ Q (.bl (!c)) H1) : tNotV ta σ H Q := h
theorem op {r : R2} (h : ta σ H fun x H1 => tb σ H1 fun y H2 => r x y H2 Q) : tOp r ta tb σ H Q := h
theorem un {r : V → Hp → VK → Prop} (h : ta σ H fun x H1 => r x H1 Q) : tUn r ta σ H Q := h
theorem I0 {f : Int → Int → V} {i j : Int} (h : Q (f i j) H) : rI0 f (.int i) (.int j) H Q := ⟨i, j, rfl, rfl, h⟩
theorem I {C : Int → Int → Prop} {f : Int → Int → V} {i j : Int} (c : C i j) (h : Q (f i j) H) : rI C f (.int i) (.int j) H Q := ⟨i, j, rfl, rfl, c, h⟩
theorem U {f : Int → V} {i : Int} (h : Q (f i) H) : rU f (.int i) H Q := ⟨i, rfl, h⟩
theorem ip {f : Int → Int → Int} {i j : Int} (h : Q (.int (f i j)) H) : ipI f (.int i) (.int j) H Q := ⟨i, j, rfl, rfl, h⟩
theorem eq (s : scal x y = true) (h : Q (.bl (decide (x = y))) H) : rEq x y H Q := ⟨s, h⟩
theorem ne (s : scal x y = true) (h : Q (.bl (!decide (x = y))) H) : rNe x y H Q := ⟨s, h⟩
theorem c_ (h : Q v H) : tC v σ H Q := h
theorem nil {Q : List V → Hp → Prop} (h : Q [] H) : tNil σ H Q := h
theorem cons {Q : List V → Hp → Prop} (h : ta σ H fun x H1 => tr σ H1 fun xs H2 => Q (x :: xs) H2) : tCons ta tr σ H Q := h
theorem tup (h : tr σ H fun xs H1 => xs.length ≤ sizeLine ∧ ∀ p, H1 p = none → Q (.ref p) (upd H1 p (.tup xs))) : tTup tr σ H Q := h
theorem lst (h : tr σ H fun xs H1 => xs.length ≤ sizeLine ∧ ∀ p, H1 p = none → Q (.ref p) (upd H1 p (.lst xs))) : tLst tr σ H Q := h
theorem newT {xs : List V} (s : xs.length ≤ sizeLine) (h : ∀ p, H p = none → Q (.ref p) (upd H p (.tup xs))) : xs.length ≤ sizeLine ∧ ∀ p, H p = none → Q (.ref p) (upd H p (.tup xs)) := ⟨s, h⟩
theorem newL {xs : List V} (s : xs.length ≤ sizeLine) (h : ∀ p, H p = none → Q (.ref p) (upd H p (.lst xs))) : xs.length ≤ sizeLine ∧ ∀ p, H p = none → Q (.ref p) (upd H p (.lst xs)) := ⟨s, h⟩
theorem szA {xs : List V} {A : Prop} (s : xs.length ≤ sizeLine) (h : A) : xs.length ≤ sizeLine ∧ A := ⟨s, h⟩
theorem call {sp : Sp} {dvs : List V} {E : XK} (h : tr σ H fun vs H1 => sp (vs ++ dvs) H1 Q E) : tCall sp dvs E tr σ H Q := h
theorem cb {f : List V → Hp → VK → Prop} (h : tr σ H fun vs H1 => f vs H1 Q) : tCB f tr σ H Q := h
theorem bm {T : String} {f : V → List V → Hp → VK → Prop} (h : te σ H fun x H1 => tyV K T x H1 ∧ tr σ H1 fun xs H2 => f x xs H2 Q) : tBM K T f te tr σ H Q := h
theorem bm0 {T : String} {f : V → List V → Hp → VK → Prop} (h : te σ H fun x H1 => tyV K T x H1 ∧ f x [] H1 Q) : tBM0 K T f te σ H Q := h
theorem tyL {p : Addr} {xs : List V} {A : Prop} (s : H p = some (.lst xs)) (h : A) : tyV K "list" (.ref p) H ∧ A := ⟨.inl ⟨rfl, _, SqL.of s⟩, h⟩
theorem tyLq {p : Addr} {xs : List V} {A : Prop} (s : SqL K H p xs) (h : A) : tyV K "list" (.ref p) H ∧ A := ⟨.inl ⟨rfl, _, s⟩, h⟩
theorem tyS {z : Str} {A : Prop} (h : A) : tyV K "str" (.str z) H ∧ A := ⟨rfl, h⟩
theorem app {l : Addr} {xs : List V} (h : H l = some (.lst xs)) (s : xs.length < sizeLine) (q : Q .non (upd H l (.lst (xs ++ [y])))) : rAppend (.ref l) [y] H Q := ⟨l, xs, y, rfl, rfl, h, s, q⟩
theorem sl {f : V → Option Int → Option Int → Hp → VK → Prop} {tl th : TO} (h : te σ H fun x H1 => tl σ H1 fun l H2 => th σ H2 fun u H3 => f x l u H3 Q) : L2.tSl f te tl th σ H Q := h
theorem nopart {Q : Option Int → Hp → Prop} (h : Q none H) : tNoPart σ H Q := h
theorem part {Q : Option Int → Hp → Prop} (h : te σ H fun x H1 => ∃ i, x = .int i ∧ Q (some i) H1) : tPart te σ H Q := h
theorem int1 {i : Int} {P : Int → Prop} (h : P i) : ∃ j, V.int i = .int j ∧ P j := ⟨i, rfl, h⟩
theorem ints1 {i : Int} {P : Int → Prop} (h : P i) : ∃ j, [V.int i] = [.int j] ∧ P j := ⟨i, rfl, h⟩
theorem ints2 {i j : Int} {P : Int → Int → Prop} (h : P i j) : ∃ a b, [V.int i, V.int j] = [.int a, .int b] ∧ P a b := ⟨i, j, rfl, h⟩
theorem ixLq {p : Addr} {xs : List V} {i : Int} (h : SqL K H p xs) (e : atI xs i = some v) (q : Q v H) : rIxL K (.ref p) (.int i) H Q := ⟨p, xs, i, v, rfl, rfl, h, e, q⟩
theorem ixL {p : Addr} {xs : List V} {i : Int} (h : H p = some (.lst xs)) (e : atI xs i = some v) (q : Q v H) : rIxL K (.ref p) (.int i) H Q := ⟨p, xs, i, v, rfl, rfl, SqL.of h, e, q⟩
theorem ixT {p : Addr} {xs : List V} {i : Int} (h : H p = some (.tup xs)) (e : atI xs i = some v) (q : Q v H) : rIxT K (.ref p) (.int i) H Q := ⟨p, xs, i, v, rfl, rfl, SqT.of h, e, q⟩
theorem ixTq {p : Addr} {xs : List V} {i : Int} (h : SqT K H p xs) (e : atI xs i = some v) (q : Q v H) : rIxT K (.ref p) (.int i) H Q := ⟨p, xs, i, v, rfl, rfl, h, e, q⟩
theorem gtup {p : Addr} {xs : List V} {n : Nat} {f : TGs} {Q : L2.St → Hp → Prop} (h : H p = some (.tup xs)) (l : xs.length = n) (q : f xs σ H Q) : gTup K n f (.ref p) σ H Q := ⟨p, xs, rfl, SqT.of h, l, q⟩
theorem gtupq {p : Addr} {xs : List V} {n : Nat} {f : TGs} {Q : L2.St → Hp → Prop} (h : SqT K H p xs) (l : xs.length = n) (q : f xs σ H Q) : gTup K n f (.ref p) σ H Q := ⟨p, xs, rfl, h, l, q⟩
theorem yes {Q : Bool → Hp → Prop} (h : Q true H) : tYes σ H Q := h
theorem gcons {f : TGs} {Q : L2.St → Hp → Prop} (q : g v σ H fun σ' H' => f vs σ' H' Q) : gCons g f (v :: vs) σ H Q := ⟨v, vs, rfl, q⟩
theorem gnil {Q : L2.St → Hp → Prop} (q : Q σ H) : gNil [] σ H Q := ⟨rfl, q⟩
theorem sub {to ti : TE} {f : TSet} {Q : L2.St → Hp → Prop} (h : to σ H fun o H1 => ti σ H1 fun i H2 => f o i v H2 fun H3 => Q σ H3) : gSub to ti f v σ H Q := h
theorem setL {l : Addr} {xs : List V} {j : Nat} {i : Int} {Q : Hp → Prop} (h : H l = some (.lst xs)) (e : ixN xs.length i = some j) (q : Q (upd H l (.lst (xs.set j v)))) : rSetL (.ref l) (.int i) v H Q := ⟨l, xs, i, j, rfl, rfl, h, e, q⟩
theorem isN (h : ta σ H fun x H1 => Q (.bl (decide (x = .non))) H1) : tIsN ta σ H Q := h
theorem rf {α : Type} {a : α} {A : Prop} (h : A) : a = a ∧ A := ⟨rfl, h⟩
theorem sz {n : Nat} (h : n ≤ 100000) : n ≤ sizeLine := Nat.le_trans h (by decide)
theorem szl {n : Nat} (h : n < 100000) : n < sizeLine := Nat.lt_of_lt_of_le h (by decide)
theorem chain {r r' : R2} (h : ta σ H fun x H1 => tb σ H1 fun y H2 => r x y H2 fun z H3 => ∃ k, z = .bl k ∧ if k = true then tc σ H3 fun w H4 => r' y w H4 Q else Q (.bl false) H3) : tChain r r' ta tb tc σ H Q := h

theorem v0 (h : Q v H) : tVar 0 (some v :: r) H Q := ⟨v, rfl, h⟩
theorem n0 {Q : L2.St → Hp → Prop} (h : Q (some v :: r) H) : gName 0 v (a :: r) H Q := h
theorem g0 {ti : TIp} (h : te (some x :: r) H fun y H1 => ti x y H1 fun z H2 => D.nx (some z :: r) H2) : tAug 0 te ti D (some x :: r) H := ⟨x, rfl, h⟩
theorem v1 {a0 : Option V} (h : Q v H) : tVar 1 (a0 :: some v :: r) H Q := ⟨v, rfl, h⟩
theorem n1 {a0 : Option V} {Q : L2.St → Hp → Prop} (h : Q (a0 :: some v :: r) H) : gName 1 v (a0 :: a :: r) H Q := h
theorem g1 {a0 : Option V} {ti : TIp} (h : te (a0 :: some x :: r) H fun y H1 => ti x y H1 fun z H2 => D.nx (a0 :: some z :: r) H2) : tAug 1 te ti D (a0 :: some x :: r) H := ⟨x, rfl, h⟩
theorem v2 {a0 a1 : Option V} (h : Q v H) : tVar 2 (a0 :: a1 :: some v :: r) H Q := ⟨v, rfl, h⟩
theorem n2 {a0 a1 : Option V} {Q : L2.St → Hp → Prop} (h : Q (a0 :: a1 :: some v :: r) H) : gName 2 v (a0 :: a1 :: a :: r) H Q := h
theorem g2 {a0 a1 : Option V} {ti : TIp} (h : te (a0 :: a1 :: some x :: r) H fun y H1 => ti x y H1 fun z H2 => D.nx (a0 :: a1 :: some z :: r) H2) : tAug 2 te ti D (a0 :: a1 :: some x :: r) H := ⟨x, rfl, h⟩
theorem v3 {a0 a1 a2 : Option V} (h : Q v H) : tVar 3 (a0 :: a1 :: a2 :: some v :: r) H Q := ⟨v, rfl, h⟩
theorem n3 {a0 a1 a2 : Option V} {Q : L2.St → Hp → Prop} (h : Q (a0 :: a1 :: a2 :: some v :: r) H) : gName 3 v (a0 :: a1 :: a2 :: a :: r) H Q := h
theorem g3 {a0 a1 a2 : Option V} {ti : TIp} (h : te (a0 :: a1 :: a2 :: some x :: r) H fun y H1 => ti x y H1 fun z H2 => D.nx (a0 :: a1 :: a2 :: some z :: r) H2) : tAug 3 te ti D (a0 :: a1 :: a2 :: some x :: r) H := ⟨x, rfl, h⟩
theorem v4 {a0 a1 a2 a3 : Option V} (h : Q v H) : tVar 4 (a0 :: a1 :: a2 :: a3 :: some v :: r) H Q := ⟨v, rfl, h⟩
theorem n4 {a0 a1 a2 a3 : Option V} {Q : L2.St → Hp → Prop} (h : Q (a0 :: a1 :: a2 :: a3 :: some v :: r) H) : gName 4 v (a0 :: a1 :: a2 :: a3 :: a :: r) H Q := h
theorem g4 {a0 a1 a2 a3 : Option V} {ti : TIp} (h : te (a0 :: a1 :: a2 :: a3 :: some x :: r) H fun y H1 => ti x y H1 fun z H2 => D.nx (a0 :: a1 :: a2 :: a3 :: some z :: r) H2) : tAug 4 te ti D (a0 :: a1 :: a2 :: a3 :: some x :: r) H := ⟨x, rfl, h⟩
theorem v5 {a0 a1 a2 a3 a4 : Option V} (h : Q v H) : tVar 5 (a0 :: a1 :: a2 :: a3 :: a4 :: some v :: r) H Q := ⟨v, rfl, h⟩
theorem n5 {a0 a1 a2 a3 a4 : Option V} {Q : L2.St → Hp → Prop} (h : Q (a0 :: a1 :: a2 :: a3 :: a4 :: some v :: r) H) : gName 5 v (a0 :: a1 :: a2 :: a3 :: a4 :: a :: r) H Q := h
theorem g5 {a0 a1 a2 a3 a4 : Option V} {ti : TIp} (h : te (a0 :: a1 :: a2 :: a3 :: a4 :: some x :: r) H fun y H1 => ti x y H1 fun z H2 => D.nx (a0 :: a1 :: a2 :: a3 :: a4 :: some z :: r) H2) : tAug 5 te ti D (a0 :: a1 :: a2 :: a3 :: a4 :: some x :: r) H := ⟨x, rfl, h⟩
theorem v6 {a0 a1 a2 a3 a4 a5 : Option V} (h : Q v H) : tVar 6 (a0 :: a1 :: a2 :: a3 :: a4 :: a5 :: some v :: r) H Q := ⟨v, rfl, h⟩
theorem n6 {a0 a1 a2 a3 a4 a5 : Option V} {Q : L2.St → Hp → Prop} (h : Q (a0 :: a1 :: a2 :: a3 :: a4 :: a5 :: some v :: r) H) : gName 6 v (a0 :: a1 :: a2 :: a3 :: a4 :: a5 :: a :: r) H Q := h
theorem g6 {a0 a1 a2 a3 a4 a5 : Option V} {ti : TIp} (h : te (a0 :: a1 :: a2 :: a3 :: a4 :: a5 :: some x :: r) H fun y H1 => ti x y H1 fun z H2 => D.nx (a0 :: a1 :: a2 :: a3 :: a4 :: a5 :: some z :: r) H2) : tAug 6 te ti D (a0 :: a1 :: a2 :: a3 :: a4 :: a5 :: some x :: r) H := ⟨x, rfl, h⟩
theorem v7 {a0 a1 a2 a3 a4 a5 a6 : Option V} (h : Q v H) : tVar 7 (a0 :: a1 :: a2 :: a3 :: a4 :: a5 :: a6 :: some v :: r) H Q := ⟨v, rfl, h⟩
theorem n7 {a0 a1 a2 a3 a4 a5 a6 : Option V} {Q : L2.St → Hp → Prop} (h : Q (a0 :: a1 :: a2 :: a3 :: a4 :: a5 :: a6 :: some v :: r) H) : gName 7 v (a0 :: a1 :: a2 :: a3 :: a4 :: a5 :: a6 :: a :: r) H Q := h
theorem g7 {a0 a1 a2 a3 a4 a5 a6 : Option V} {ti : TIp} (h : te (a0 :: a1 :: a2 :: a3 :: a4 :: a5 :: a6 :: some x :: r) H fun y H1 => ti x y H1 fun z H2 => D.nx (a0 :: a1 :: a2 :: a3 :: a4 :: a5 :: a6 :: some z :: r) H2) : tAug 7 te ti D (a0 :: a1 :: a2 :: a3 :: a4 :: a5 :: a6 :: some x :: r) H := ⟨x, rfl, h⟩
theorem v8 {a0 a1 a2 a3 a4 a5 a6 a7 : Option V} (h : Q v H) : tVar 8 (a0 :: a1 :: a2 :: a3 :: a4 :: a5 :: a6 :: a7 :: some v :: r) H Q := ⟨v, rfl, h⟩
theorem n8 {a0 a1 a2 a3 a4 a5 a6 a7 : Option V} {Q : L2.St → Hp → Prop} (h : Q (a0 :: a1 :: a2 :: a3 :: a4 :: a5 :: a6 :: a7 :: some v :: r) H) : gName 8 v (a0 :: a1 :: a2 :: a3 :: a4 :: a5 :: a6 :: a7 :: a :: r) H Q := h
theorem g8 {a0 a1 a2 a3 a4 a5 a6 a7 : Option V} {ti : TIp} (h : te (a0 :: a1 :: a2 :: a3 :: a4 :: a5 :: a6 :: a7 :: some x :: r) H fun y H1 => ti x y H1 fun z H2 => D.nx (a0 :: a1 :: a2 :: a3 :: a4 :: a5 :: a6 :: a7 :: some z :: r) H2) : tAug 8 te ti D (a0 :: a1 :: a2 :: a3 :: a4 :: a5 :: a6 :: a7 :: some x :: r) H := ⟨x, rfl, h⟩
theorem v9 {a0 a1 a2 a3 a4 a5 a6 a7 a8 : Option V} (h : Q v H) : tVar 9 (a0 :: a1 :: a2 :: a3 :: a4 :: a5 :: a6 :: a7 :: a8 :: some v :: r) H Q := ⟨v, rfl, h⟩
theorem n9 {a0 a1 a2 a3 a4 a5 a6 a7 a8 : Option V} {Q : L2.St → Hp → Prop} (h : Q (a0 :: a1 :: a2 :: a3 :: a4 :: a5 :: a6 :: a7 :: a8 :: some v :: r) H) : gName 9 v (a0 :: a1 :: a2 :: a3 :: a4 :: a5 :: a6 :: a7 :: a8 :: a :: r) H Q := h
theorem g9 {a0 a1 a2 a3 a4 a5 a6 a7 a8 : Option V} {ti : TIp} (h : te (a0 :: a1 :: a2 :: a3 :: a4 :: a5 :: a6 :: a7 :: a8 :: some x :: r) H fun y H1 => ti x y H1 fun z H2 => D.nx (a0 :: a1 :: a2 :: a3 :: a4 :: a5 :: a6 :: a7 :: a8 :: some z :: r) H2) : tAug 9 te ti D (a0 :: a1 :: a2 :: a3 :: a4 :: a5 :: a6 :: a7 :: a8 :: some x :: r) H := ⟨x, rfl, h⟩
theorem v10 {a0 a1 a2 a3 a4 a5 a6 a7 a8 a9 : Option V} (h : Q v H) : tVar 10 (a0 :: a1 :: a2 :: a3 :: a4 :: a5 :: a6 :: a7 :: a8 :: a9 :: some v :: r) H Q := ⟨v, rfl, h⟩
theorem n10 {a0 a1 a2 a3 a4 a5 a6 a7 a8 a9 : Option V} {Q : L2.St → Hp → Prop} (h : Q (a0 :: a1 :: a2 :: a3 :: a4 :: a5 :: a6 :: a7 :: a8 :: a9 :: some v :: r) H) : gName 10 v (a0 :: a1 :: a2 :: a3 :: a4 :: a5 :: a6 :: a7 :: a8 :: a9 :: a :: r) H Q := h
theorem g10 {a0 a1 a2 a3 a4 a5 a6 a7 a8 a9 : Option V} {ti : TIp} (h : te (a0 :: a1 :: a2 :: a3 :: a4 :: a5 :: a6 :: a7 :: a8 :: a9 :: some x :: r) H fun y H1 => ti x y H1 fun z H2 => D.nx (a0 :: a1 :: a2 :: a3 :: a4 :: a5 :: a6 :: a7 :: a8 :: a9 :: some z :: r) H2) : tAug 10 te ti D (a0 :: a1 :: a2 :: a3 :: a4 :: a5 :: a6 :: a7 :: a8 :: a9 :: some x :: r) H := ⟨x, rfl, h⟩
theorem v11 {a0 a1 a2 a3 a4 a5 a6 a7 a8 a9 a10 : Option V} (h : Q v H) : tVar 11 (a0 :: a1 :: a2 :: a3 :: a4 :: a5 :: a6 :: a7 :: a8 :: a9 :: a10 :: some v :: r) H Q := ⟨v, rfl, h⟩
theorem n11 {a0 a1 a2 a3 a4 a5 a6 a7 a8 a9 a10 : Option V} {Q : L2.St → Hp → Prop} (h : Q (a0 :: a1 :: a2 :: a3 :: a4 :: a5 :: a6 :: a7 :: a8 :: a9 :: a10 :: some v :: r) H) : gName 11 v (a0 :: a1 :: a2 :: a3 :: a4 :: a5 :: a6 :: a7 :: a8 :: a9 :: a10 :: a :: r) H Q := h
theorem g11 {a0 a1 a2 a3 a4 a5 a6 a7 a8 a9 a10 : Option V} {ti : TIp} (h : te (a0 :: a1 :: a2 :: a3 :: a4 :: a5 :: a6 :: a7 :: a8 :: a9 :: a10 :: some x :: r) H fun y H1 => ti x y H1 fun z H2 => D.nx (a0 :: a1 :: a2 :: a3 :: a4 :: a5 :: a6 :: a7 :: a8 :: a9 :: a10 :: some z :: r) H2) : tAug 11 te ti D (a0 :: a1 :: a2 :: a3 :: a4 :: a5 :: a6 :: a7 :: a8 :: a9 :: a10 :: some x :: r) H := ⟨x, rfl, h⟩
theorem v12 {a0 a1 a2 a3 a4 a5 a6 a7 a8 a9 a10 a11 : Option V} (h : Q v H) : tVar 12 (a0 :: a1 :: a2 :: a3 :: a4 :: a5 :: a6 :: a7 :: a8 :: a9 :: a10 :: a11 :: some v :: r) H Q := ⟨v, rfl, h⟩
theorem n12 {a0 a1 a2 a3 a4 a5 a6 a7 a8 a9 a10 a11 : Option V} {Q : L2.St → Hp → Prop} (h : Q (a0 :: a1 :: a2 :: a3 :: a4 :: a5 :: a6 :: a7 :: a8 :: a9 :: a10 :: a11 :: some v :: r) H) : gName 12 v (a0 :: a1 :: a2 :: a3 :: a4 :: a5 :: a6 :: a7 :: a8 :: a9 :: a10 :: a11 :: a :: r) H Q := h
theorem g12 {a0 a1 a2 a3 a4 a5 a6 a7 a8 a9 a10 a11 : Option V} {ti : TIp} (h : te (a0 :: a1 :: a2 :: a3 :: a4 :: a5 :: a6 :: a7 :: a8 :: a9 :: a10 :: a11 :: some x :: r) H fun y H1 => ti x y H1 fun z H2 => D.nx (a0 :: a1 :: a2 :: a3 :: a4 :: a5 :: a6 :: a7 :: a8 :: a9 :: a10 :: a11 :: some z :: r) H2) : tAug 12 te ti D (a0 :: a1 :: a2 :: a3 :: a4 :: a5 :: a6 :: a7 :: a8 :: a9 :: a10 :: a11 :: some x :: r) H := ⟨x, rfl, h⟩
theorem v13 {a0 a1 a2 a3 a4 a5 a6 a7 a8 a9 a10 a11 a12 : Option V} (h : Q v H) : tVar 13 (a0 :: a1 :: a2 :: a3 :: a4 :: a5 :: a6 :: a7 :: a8 :: a9 :: a10 :: a11 :: a12 :: some v :: r) H Q := ⟨v, rfl, h⟩
theorem n13 {a0 a1 a2 a3 a4 a5 a6 a7 a8 a9 a10 a11 a12 : Option V} {Q : L2.St → Hp → Prop} (h : Q (a0 :: a1 :: a2 :: a3 :: a4 :: a5 :: a6 :: a7 :: a8 :: a9 :: a10 :: a11 :: a12 :: some v :: r) H) : gName 13 v (a0 :: a1 :: a2 :: a3 :: a4 :: a5 :: a6 :: a7 :: a8 :: a9 :: a10 :: a11 :: a12 :: a :: r) H Q := h
theorem g13 {a0 a1 a2 a3 a4 a5 a6 a7 a8 a9 a10 a11 a12 : Option V} {ti : TIp} (h : te (a0 :: a1 :: a2 :: a3 :: a4 :: a5 :: a6 :: a7 :: a8 :: a9 :: a10 :: a11 :: a12 :: some x :: r) H fun y H1 => ti x y H1 fun z H2 => D.nx (a0 :: a1 :: a2 :: a3 :: a4 :: a5 :: a6 :: a7 :: a8 :: a9 :: a10 :: a11 :: a12 :: some z :: r) H2) : tAug 13 te ti D (a0 :: a1 :: a2 :: a3 :: a4 :: a5 :: a6 :: a7 :: a8 :: a9 :: a10 :: a11 :: a12 :: some x :: r) H := ⟨x, rfl, h⟩
theorem v14 {a0 a1 a2 a3 a4 a5 a6 a7 a8 a9 a10 a11 a12 a13 : Option V} (h : Q v H) : tVar 14 (a0 :: a1 :: a2 :: a3 :: a4 :: a5 :: a6 :: a7 :: a8 :: a9 :: a10 :: a11 :: a12 :: a13 :: some v :: r) H Q := ⟨v, rfl, h⟩
theorem n14 {a0 a1 a2 a3 a4 a5 a6 a7 a8 a9 a10 a11 a12 a13 : Option V} {Q : L2.St → Hp → Prop} (h : Q (a0 :: a1 :: a2 :: a3 :: a4 :: a5 :: a6 :: a7 :: a8 :: a9 :: a10 :: a11 :: a12 :: a13 :: some v :: r) H) : gName 14 v (a0 :: a1 :: a2 :: a3 :: a4 :: a5 :: a6 :: a7 :: a8 :: a9 :: a10 :: a11 :: a12 :: a13 :: a :: r) H Q := h
theorem g14 {a0 a1 a2 a3 a4 a5 a6 a7 a8 a9 a10 a11 a12 a13 : Option V} {ti : TIp} (h : te (a0 :: a1 :: a2 :: a3 :: a4 :: a5 :: a6 :: a7 :: a8 :: a9 :: a10 :: a11 :: a12 :: a13 :: some x :: r) H fun y H1 => ti x y H1 fun z H2 => D.nx (a0 :: a1 :: a2 :: a3 :: a4 :: a5 :: a6 :: a7 :: a8 :: a9 :: a10 :: a11 :: a12 :: a13 :: some z :: r) H2) : tAug 14 te ti D (a0 :: a1 :: a2 :: a3 :: a4 :: a5 :: a6 :: a7 :: a8 :: a9 :: a10 :: a11 :: a12 :: a13 :: some x :: r) H := ⟨x, rfl, h⟩
theorem v15 {a0 a1 a2 a3 a4 a5 a6 a7 a8 a9 a10 a11 a12 a13 a14 : Option V} (h : Q v H) : tVar 15 (a0 :: a1 :: a2 :: a3 :: a4 :: a5 :: a6 :: a7 :: a8 :: a9 :: a10 :: a11 :: a12 :: a13 :: a14 :: some v :: r) H Q := ⟨v, rfl, h⟩
theorem n15 {a0 a1 a2 a3 a4 a5 a6 a7 a8 a9 a10 a11 a12 a13 a14 : Option V} {Q : L2.St → Hp → Prop} (h : Q (a0 :: a1 :: a2 :: a3 :: a4 :: a5 :: a6 :: a7 :: a8 :: a9 :: a10 :: a11 :: a12 :: a13 :: a14 :: some v :: r) H) : gName 15 v (a0 :: a1 :: a2 :: a3 :: a4 :: a5 :: a6 :: a7 :: a8 :: a9 :: a10 :: a11 :: a12 :: a13 :: a14 :: a :: r) H Q := h
theorem g15 {a0 a1 a2 a3 a4 a5 a6 a7 a8 a9 a10 a11 a12 a13 a14 : Option V} {ti : TIp} (h : te (a0 :: a1 :: a2 :: a3 :: a4 :: a5 :: a6 :: a7 :: a8 :: a9 :: a10 :: a11 :: a12 :: a13 :: a14 :: some x :: r) H fun y H1 => ti x y H1 fun z H2 => D.nx (a0 :: a1 :: a2 :: a3 :: a4 :: a5 :: a6 :: a7 :: a8 :: a9 :: a10 :: a11 :: a12 :: a13 :: a14 :: some z :: r) H2) : tAug 15 te ti D (a0 :: a1 :: a2 :: a3 :: a4 :: a5 :: a6 :: a7 :: a8 :: a9 :: a10 :: a11 :: a12 :: a13 :: a14 :: some x :: r) H := ⟨x, rfl, h⟩
theorem room65 {k : Nat} {A : Around} (r : Room k A) : A.units + 65 < cLine := by
  have := r.un
  omega
/-! ### iterators -/
def lcRest (g : TG) (tt : TT) (te : TE) (vs : List Nat) (σ : L2.St) (Q : VK) (J : It) (H1 : Hp) : Prop := ∀ D, H1 D = none → ∃ W : Nat → Nat → Hp → Prop, (∃ m, W 0 m (upd H1 D (.lst []))) ∧ ∀ i m H, W i m H →
  (J.stop i H ∧ Q (.ref D) H) ∨ (J.go i H ∧ ∃ Nx : Hp → Prop, (∀ H', Nx H' → ∃ m', m' < m ∧ W (i + 1) m' H') ∧ ∀ x H', J.yld i H x H' → g x (wipe σ vs) H' fun σ2 H2 => wipe σ2 vs = wipe σ vs ∧ tt σ2 H2 fun b H3 =>
    if b = true then te σ2 H3 fun y H4 => ∃ acc, H4 D = some (.lst acc) ∧ acc.length < sizeLine ∧ Nx (upd H4 D (.lst (acc ++ [y]))) else Nx H3)
theorem lc {wi : TI} {tt : TT} {ws : List Nat} (h : wi σ H (lcRest g tt te ws σ Q)) : tLc wi g tt te ws σ H Q := h
def forRest (g : TG) (tb : TS) (D : Ends) (σ0 : L2.St) (J : It) (H1 : Hp) : Prop := ∃ W : Nat → Nat → L2.St → Hp → Prop, (∃ m, W 0 m σ0 H1) ∧ ∀ i m σ H, W i m σ H →
  (J.stop i H ∧ D.nx σ H) ∨ (J.go i H ∧ ∃ N : L2.St → Hp → Prop, (∀ σ' H', N σ' H' → ∃ m', m' < m ∧ W (i + 1) m' σ' H') ∧ ∀ x H', J.yld i H x H' → g x σ H' fun σ2 H2 => tb { D with nx := N, ct := N, bk := D.nx } σ2 H2)
theorem for_ {wi : TI} {tb : TS} (h : wi σ H (forRest g tb D σ)) : tFor wi g tb D σ H := h
variable {R : It → Hp → Prop}
theorem ilist (h : te σ H fun x H1 => ∃ a, x = .ref a ∧ (∃ xs, SqL K H1 a xs) ∧ R (Itl K a) H1) : iList K te σ H R := h
theorem itup (h : te σ H fun x H1 => ∃ a, x = .ref a ∧ (∃ xs, SqT K H1 a xs) ∧ R (Itt K a) H1) : iTup K te σ H R := h
theorem irng1 (h : tr σ H fun vs H1 => ∃ j : Int, vs = [.int j] ∧ -(2 ^ 62) ≤ j ∧ j < 2 ^ 62 ∧ R (Itr 0 j.toNat) H1) : iRng1 tr σ H R := h
theorem irng2 (h : tr σ H fun vs H1 => ∃ i j : Int, vs = [.int i, .int j] ∧ (-(2 ^ 62) ≤ i ∧ i < 2 ^ 62 ∧ -(2 ^ 62) ≤ j ∧ j < 2 ^ 62) ∧ R (Itr i (j - i).toNat) H1) : iRng2 tr σ H R := h
theorem ienum (h : tr σ H fun vs H1 => ∃ a xs, vs = [.ref a] ∧ SqL K H1 a xs ∧ R (Ite K a) H1) : iEnum K tr σ H R := h
theorem istr (h : te σ H fun v H1 => ∃ x, v = .str x ∧ R (Its x) H1) : iStr te σ H R := h
theorem refA {a : Addr} {P : Addr → Prop} (h : P a) : ∃ b, V.ref a = .ref b ∧ P b := ⟨a, rfl, h⟩
theorem strA {a : Str} {P : Str → Prop} (h : P a) : ∃ b, V.str a = .str b ∧ P b := ⟨a, rfl, h⟩
theorem sqA {l : Addr} {xs : List V} {A : Prop} (h : H l = some (.lst xs)) (q : A) : (∃ xs, SqL K H l xs) ∧ A := ⟨⟨_, SqL.of h⟩, q⟩
theorem sqAq {l : Addr} {xs : List V} {A : Prop} (h : SqL K H l xs) (q : A) : (∃ xs, SqL K H l xs) ∧ A := ⟨⟨_, h⟩, q⟩
theorem stA {l : Addr} {xs : List V} {A : Prop} (h : H l = some (.tup xs)) (q : A) : (∃ xs, SqT K H l xs) ∧ A := ⟨⟨_, SqT.of h⟩, q⟩
theorem stAq {l : Addr} {xs : List V} {A : Prop} (h : SqT K H l xs) (q : A) : (∃ xs, SqT K H l xs) ∧ A := ⟨⟨_, h⟩, q⟩
theorem enA {l : Addr} {xs : List V} {P : Addr → Prop} (h : H l = some (.lst xs)) (q : P l) : ∃ a ys, [V.ref l] = [.ref a] ∧ SqL K H a ys ∧ P a := ⟨l, xs, rfl, SqL.of h, q⟩
theorem enAq {l : Addr} {xs : List V} {P : Addr → Prop} (h : SqL K H l xs) (q : P l) : ∃ a ys, [V.ref l] = [.ref a] ∧ SqL K H a ys ∧ P a := ⟨l, xs, rfl, h, q⟩
theorem lenL {l : Addr} {xs : List V} {P : List V → Prop} (h : H l = some (.lst xs)) (q : P xs) : ∃ p ys, [V.ref l] = [.ref p] ∧ (SqL K H p ys ∨ SqT K H p ys) ∧ P ys := ⟨l, xs, rfl, .inl (SqL.of h), q⟩
theorem lenLq {l : Addr} {xs : List V} {P : List V → Prop} (h : SqL K H l xs) (q : P xs) : ∃ p ys, [V.ref l] = [.ref p] ∧ (SqL K H p ys ∨ SqT K H p ys) ∧ P ys := ⟨l, xs, rfl, .inl h, q⟩
theorem lenTq {l : Addr} {xs : List V} {P : List V → Prop} (h : SqT K H l xs) (q : P xs) : ∃ p ys, [V.ref l] = [.ref p] ∧ (SqL K H p ys ∨ SqT K H p ys) ∧ P ys := ⟨l, xs, rfl, .inr h, q⟩
theorem lenT {l : Addr} {xs : List V} {P : List V → Prop} (h : H l = some (.tup xs)) (q : P xs) : ∃ p ys, [V.ref l] = [.ref p] ∧ (SqL K H p ys ∨ SqT K H p ys) ∧ P ys := ⟨l, xs, rfl, .inr (SqT.of h), q⟩
/-! ### comprehensions: each element by a relation -/
def But (D : Addr) (H H' : Hp) : Prop := ∀ b o, b ≠ D → H b = some o → H' b = some o
theorem But.refl {D : Addr} : But D H H := fun _ _ _ h => h
theorem But.trans {D : Addr} {H H1 H2 : Hp} (a : But D H H1) (b : But D H1 H2) : But D H H2 := fun x o n h => b x o n (a x o n h)
theorem But.same {D : Addr} {H H1 : Hp} (a : Same H H1) : But D H H1 := fun x o _ h => a x o h
theorem But.at_ {D : Addr} {o : HO} : But D H (upd H D o) := fun x u n h => by rw [upd_ne n]; exact h
theorem But.to {D : Addr} {H H1 : Hp} (a : But D H H1) (n : H D = none) : Same H H1 := fun x o h => a x o (fun z => by rw [z, n] at h; cases h) h
theorem lc_rel {J : It} {n : Nat} {G : Hp → Prop} {Y : Nat → Hp → V → Hp → Prop} (w : Walk J n G Y) {g : TG} {te : TE} {vs : List Nat} {σ : L2.St} {H1 : Hp} {D : Addr} {Qd : Hp → Prop} (R : Nat → V → Hp → Prop)
    (nD : H1 D = none) (hn : n ≤ 100000) (mono : ∀ i v H H', R i v H → But D H H' → R i v H') (hG : ∀ H, But D H1 H → G H)
    (hs : ∀ i x H H' (Kt : VK), i < n → But D H1 H → (∃ xs, H D = some (.lst xs)) → Y i H x H' → (∀ y H4, R i y H4 → Same H H4 → Kt y H4) → g x (wipe σ vs) H' fun σ2 H2 => wipe σ2 vs = wipe σ vs ∧ te σ2 H2 Kt)
    (hd : ∀ H ys, ys.length = n → (∀ i v, ys[i]? = some v → R i v H) → Same H1 H → H D = some (.lst ys) → Qd H) :
    ∃ W : Nat → Nat → Hp → Prop, (∃ m, W 0 m (upd H1 D (.lst []))) ∧ ∀ i m H, W i m H →
      (J.stop i H ∧ Qd H) ∨ (J.go i H ∧ ∃ Nx : Hp → Prop, (∀ H', Nx H' → ∃ m', m' < m ∧ W (i + 1) m' H') ∧ ∀ x H', J.yld i H x H' → g x (wipe σ vs) H' fun σ2 H2 => wipe σ2 vs = wipe σ vs ∧ tYes σ2 H2 fun b H3 =>
        if b = true then te σ2 H3 fun y H4 => ∃ acc, H4 D = some (.lst acc) ∧ acc.length < sizeLine ∧ Nx (upd H4 D (.lst (acc ++ [y]))) else Nx H3) := by
  refine lc_it w (fun i H => ∃ ys, ys.length = i ∧ (∀ i v, ys[i]? = some v → R i v H) ∧ But D H1 H ∧ H D = some (.lst ys)) ⟨[], rfl, fun i v h => by simp at h, But.at_, upd_same⟩ (fun i H _ h => ?_) (fun i x H H' hi h y => ?_) (fun H h => ?_)
  · obtain ⟨_, _, _, b, _⟩ := h
    exact hG H b
  · obtain ⟨ys, hl, hr, b, hD⟩ := h
    refine hs i x H H' _ hi b ⟨_, hD⟩ y fun v H4 r sm => ?_
    refine ⟨ys, sm _ _ hD, szl (by omega), ys ++ [v], by simp [hl], fun j u hj => ?_, (b.trans (But.same sm)).trans But.at_, upd_same⟩
    by_cases hj2 : j < ys.length
    · rw [List.getElem?_append_left hj2] at hj
      exact mono _ _ _ _ (hr j u hj) ((But.same sm).trans But.at_)
    · have e : j = ys.length := by
        have := (List.getElem?_eq_some_iff.mp hj).1
        simp at this; omega
      subst e
      rw [List.getElem?_append_right (Nat.le_refl _)] at hj
      simp at hj
      subst hj
      rw [hl]
      exact mono _ _ _ _ r But.at_
  · obtain ⟨ys, hl, hr, b, hD⟩ := h
    exact hd H ys hl hr (b.to nD) hD
/-! ### tests, ints in lists -/
theorem ifD {p : Prop} [Decidable p] {A B : Prop} (h1 : p → A) (h2 : ¬ p → B) : if decide p = true then A else B := by
  by_cases h : p
  · rw [decide_eq_true h, if_pos rfl]; exact h1 h
  · rw [decide_eq_false h, if_neg Bool.false_ne_true]; exact h2 h
theorem ifN {p : Prop} [Decidable p] {A B : Prop} (h1 : ¬ p → A) (h2 : p → B) : if (!decide p) = true then A else B := by
  by_cases h : p
  · rw [decide_eq_true h, if_neg (by decide)]; exact h2 h
  · rw [decide_eq_false h, if_pos (by decide)]; exact h1 h
theorem ifT {A B : Prop} (h : A) : if true = true then A else B := by rw [if_pos rfl]; exact h
theorem ifF {A B : Prop} (h : B) : if false = true then A else B := by rw [if_neg Bool.false_ne_true]; exact h
theorem ifB {b : Bool} {A B : Prop} (h1 : b = true → A) (h2 : b = false → B) : if b = true then A else B := by
  cases b with
  | true => exact ifT (h1 rfl)
  | false => exact ifF (h2 rfl)
theorem ifNB {b : Bool} {A B : Prop} (h1 : b = false → A) (h2 : b = true → B) : if (!b) = true then A else B := by
  cases b with
  | true => exact ifF (h2 rfl)
  | false => exact ifT (h1 rfl)
theorem flat_ints (ns : List Int) : (ns.map V.int).all flatV = true := by
  rw [List.all_eq_true]
  intro x hx
  obtain ⟨i, _, rfl⟩ := List.mem_map.mp hx
  rfl
theorem flat_strs (ns : List Str) : (ns.map V.str).all flatV = true := by
  rw [List.all_eq_true]
  intro x hx
  obtain ⟨i, _, rfl⟩ := List.mem_map.mp hx
  rfl
theorem eqV_ints (a b : Int) : eqV (.int a) (.int b) = decide (a = b) := by
  by_cases h : a = b <;> simp [eqV, h]
theorem inV_ints (x : Int) (r : List Int) : inV (.int x) (r.map V.int) = decide (x ∈ r) := by
  unfold inV
  rw [List.any_map]
  by_cases h : x ∈ r
  · rw [decide_eq_true h, List.any_eq_true]
    exact ⟨x, h, beq_self_eq_true x⟩
  · rw [decide_eq_false h, List.any_eq_false]
    intro y hy e
    have e2 : (y == x) = true := e
    exact h (by rw [← eq_of_beq e2]; exact hy)
theorem first_at (ns : List Int) (n : Int) (h : n ∈ ns) : ∃ j : Nat, ns[j]? = some n ∧ ∀ i, i < j → ns[i]? ≠ some n := by
  induction ns with
  | nil => simp at h
  | cons a r ih =>
    by_cases e : a = n
    · exact ⟨0, by simp [e], fun i hi => absurd hi (Nat.not_lt_zero _)⟩
    · obtain ⟨j, h1, h2⟩ := ih ((List.mem_cons.mp h).resolve_left fun z => e z.symm)
      refine ⟨j + 1, by simpa using h1, fun i hi => ?_⟩
      cases i with
      | zero => simp [e]
      | succ i => simpa using h2 i (by omega)
theorem inI {p : Addr} {ns : List Int} {n : Int} (h : H p = some (.lst (ns.map V.int))) (q : Q (.bl (decide (n ∈ ns))) H) : rIn K false (.int n) (.ref p) H Q :=
  ⟨p, _, rfl, .inl (SqL.of h), rfl, flat_ints _, by rw [inV_ints]; exact q⟩
theorem ninI {p : Addr} {ns : List Int} {n : Int} (h : H p = some (.lst (ns.map V.int))) (q : Q (.bl (!decide (n ∈ ns))) H) : rIn K true (.int n) (.ref p) H Q :=
  ⟨p, _, rfl, .inl (SqL.of h), rfl, flat_ints _, by rw [inV_ints]; exact q⟩
theorem idxI {a : Addr} {ns : List Int} {n : Int} {j : Nat} (h : H a = some (.lst (ns.map V.int))) (hj : ns[j]? = some n) (hf : ∀ i, i < j → ns[i]? ≠ some n) (q : Q (.int (j : Nat)) H) : rIndex K (.ref a) [.int n] H Q :=
  ⟨a, _, _, j, .int n, rfl, rfl, SqL.of h, rfl, flat_ints _, by rw [List.getElem?_map, hj]; rfl, by rw [eqV_ints, decide_eq_true rfl], fun m z' hm hz => by
    rw [List.getElem?_map] at hz
    cases e : ns[m]? with
    | none => rw [e] at hz; cases hz
    | some x =>
      rw [e] at hz; cases hz
      rw [eqV_ints]
      exact decide_eq_false fun e2 => hf m hm (by rw [e, e2]), q⟩
theorem vals_map {n : Nat} {ns : List V} (f : Nat → Int) (ln : ns.length = n) (hn : ∀ (i : Nat) v, ns[i]? = some v → v = .int (f i)) : ns = ((List.range n).map f).map V.int := by
  refine List.ext_getElem? fun i => ?_
  rw [List.map_map, List.getElem?_map]
  by_cases hi : i < n
  · obtain ⟨v, hv⟩ : ∃ v, ns[i]? = some v := ⟨_, List.getElem?_eq_getElem (by omega)⟩
    rw [hv, List.getElem?_range hi, hn i v hv]
    rfl
  · rw [List.getElem?_eq_none (by omega), List.getElem?_eq_none (by rw [List.length_range]; omega)]
    rfl
theorem at_int {ns : List Int} {i : Int} {j : Nat} {n : Int} (e : i = (j : Int)) (h : ns[j]? = some n) : atI (ns.map V.int) i = some (.int n) := by
  subst e
  exact atI_nat (by rw [List.getElem?_map, h]; rfl)
theorem at_val {xs : List V} {i : Int} {j : Nat} (e : i = (j : Int)) (h : xs[j]? = some v) : atI xs i = some v := by
  subst e
  exact atI_nat h
theorem zr {i : Nat} {H H' : Hp} (y : YFn (fun (i : Nat) => V.int ((0 : Int) + (i : Int))) i H x H') : x = .int (i : Int) ∧ H' = H := by
  obtain ⟨a, b⟩ := y
  exact ⟨by rw [b]; show V.int (0 + (i : Int)) = _; rw [Int.zero_add], a⟩
/-! ### new objects, by what they leave -/
def NewT (Q : VK) (xs : List V) (H : Hp) : Prop := xs.length ≤ sizeLine ∧ ∀ p, H p = none → Q (.ref p) (upd H p (.tup xs))
def NewL (Q : VK) (xs : List V) (H : Hp) : Prop := xs.length ≤ sizeLine ∧ ∀ p, H p = none → Q (.ref p) (upd H p (.lst xs))
theorem tupN (h : tr σ H (NewT Q)) : tTup tr σ H Q := h
theorem lstN (h : tr σ H (NewL Q)) : tLst tr σ H Q := h
theorem nwT {xs : List V} (s : xs.length ≤ sizeLine) (h : ∀ p H', H p = none → Same H H' → H' p = some (.tup xs) → Q (.ref p) H') : NewT Q xs H := ⟨s, fun p np => h p _ np (same_new np) upd_same⟩
theorem nwL {xs : List V} (s : xs.length ≤ sizeLine) (h : ∀ p H', H p = none → Same H H' → H' p = some (.lst xs) → Q (.ref p) H') : NewL Q xs H := ⟨s, fun p np => h p _ np (same_new np) upd_same⟩
def ListOf (K : PySem.W.Frag) (Q : VK) (vs : List V) (H : Hp) : Prop := ∃ p ys, vs = [.ref p] ∧ (SqL K H p ys ∨ SqT K H p ys) ∧ ∀ l, H l = none → Q (.ref l) (upd H l (.lst ys))
theorem cbListOf (h : tr σ H (ListOf K Q)) : tCB (fun xs H Q => ∃ p ys, xs = [.ref p] ∧ (SqL K H p ys ∨ SqT K H p ys) ∧ ∀ l, H l = none → Q (.ref l) (upd H l (.lst ys))) tr σ H Q := h
theorem listOfq {a : Addr} {ys : List V} (s : SqL K H a ys) (h : ∀ p H', H p = none → Same H H' → H' p = some (.lst ys) → Q (.ref p) H') : ListOf K Q [.ref a] H := ⟨a, ys, rfl, .inl s, fun p np => h p _ np (same_new np) upd_same⟩
theorem listOf {a : Addr} {ys : List V} (s : H a = some (.lst ys)) (h : ∀ p H', H p = none → Same H H' → H' p = some (.lst ys) → Q (.ref p) H') : ListOf K Q [.ref a] H := listOfq (SqL.of s) h
def SlL (K : PySem.W.Frag) (x : V) (lo hi : Option Int) (Q : VK) (H : Hp) : Prop := ∃ a xs, x = .ref a ∧ SqL K H a xs ∧ ∀ p, H p = none → Q (.ref p) (upd H p (.lst (cutV xs lo hi)))
theorem slN {tl th : TO} (h : te σ H fun x H1 => tl σ H1 fun l H2 => th σ H2 fun u H3 => SlL K x l u Q H3) : L2.tSl (rSlL K) te tl th σ H Q := h
theorem slq {a : Addr} {xs : List V} {lo hi : Option Int} (s : SqL K H a xs) (h : ∀ p H', H p = none → Same H H' → H' p = some (.lst (cutV xs lo hi)) → Q (.ref p) H') : SlL K (.ref a) lo hi Q H := ⟨a, xs, rfl, s, fun p np => h p _ np (same_new np) upd_same⟩
theorem slo {a : Addr} {xs : List V} {lo hi : Option Int} (s : H a = some (.lst xs)) (h : ∀ p H', H p = none → Same H H' → H' p = some (.lst (cutV xs lo hi)) → Q (.ref p) H') : SlL K (.ref a) lo hi Q H := slq (SqL.of s) h
def SrtI (K : PySem.W.Frag) (Q : VK) (vs : List V) (H : Hp) : Prop := rSortedI K vs H Q
theorem cbSrtI (h : tr σ H (SrtI K Q)) : tCB (rSortedI K) tr σ H Q := h
theorem srtI {a : Addr} {ns : List Int} (s : SqL K H a (ns.map V.int)) (h : ∀ (ns' : List Int) p H', ns'.Perm ns → ns'.Pairwise (· ≤ ·) → H p = none → Same H H' → H' p = some (.lst (ns'.map V.int)) → Q (.ref p) H') : SrtI K Q [.ref a] H :=
  ⟨a, ns, rfl, s, fun ns' p e1 e2 np => h ns' p _ e1 e2 np (same_new np) upd_same⟩
theorem srtIo {a : Addr} {ns : List Int} (s : H a = some (.lst (ns.map V.int))) (h : ∀ (ns' : List Int) p H', ns'.Perm ns → ns'.Pairwise (· ≤ ·) → H p = none → Same H H' → H' p = some (.lst (ns'.map V.int)) → Q (.ref p) H') : SrtI K Q [.ref a] H := srtI (SqL.of s) h
theorem eqD {d e : PyData} (h1 : Dp K H x d) (h2 : Dp K H y e) (s1 : SeqAt.shaped d = true) (s2 : SeqAt.shaped e = true) (q : Q (.bl (PyData.eqv d e)) H) : rEqD K x y H Q := ⟨d, e, h1, h2, s1, s2, q⟩
theorem neD {d e : PyData} (h1 : Dp K H x d) (h2 : Dp K H y e) (s1 : SeqAt.shaped d = true) (s2 : SeqAt.shaped e = true) (q : Q (.bl (!PyData.eqv d e)) H) : rNeD K x y H Q := ⟨d, e, h1, h2, s1, s2, q⟩
/-! ### isinstance -/
theorem isi {T U : String} {b : Bool} (t : TyX K H x (.type T)) (k : kitB T U = some b) (q : Q (.bl b) H) : rIsi K [x, .ty U] H Q := ⟨x, .ty U, _, _, b, rfl, .ty _, t, kit_ty k, q⟩
theorem isi_ii {n : Int} (q : Q (.bl true) H) : rIsi K [.int n, .ty "int"] H Q := isi (.base (.int _)) (by decide +kernel) q
theorem isi_ib {n : Int} (q : Q (.bl false) H) : rIsi K [.int n, .ty "bool"] H Q := isi (.base (.int _)) (by decide +kernel) q
theorem isi_is {n : Int} (q : Q (.bl false) H) : rIsi K [.int n, .ty "str"] H Q := isi (.base (.int _)) (by decide +kernel) q
theorem isi_il {n : Int} (q : Q (.bl false) H) : rIsi K [.int n, .ty "list"] H Q := isi (.base (.int _)) (by decide +kernel) q
theorem isi_it {n : Int} (q : Q (.bl false) H) : rIsi K [.int n, .ty "tuple"] H Q := isi (.base (.int _)) (by decide +kernel) q
theorem isi_id {n : Int} (q : Q (.bl false) H) : rIsi K [.int n, .ty "dict"] H Q := isi (.base (.int _)) (by decide +kernel) q
theorem isi_bi {n : Bool} (q : Q (.bl true) H) : rIsi K [.bl n, .ty "int"] H Q := isi (.base (.bl _)) (by decide +kernel) q
theorem isi_bb {n : Bool} (q : Q (.bl true) H) : rIsi K [.bl n, .ty "bool"] H Q := isi (.base (.bl _)) (by decide +kernel) q
theorem isi_bs {n : Bool} (q : Q (.bl false) H) : rIsi K [.bl n, .ty "str"] H Q := isi (.base (.bl _)) (by decide +kernel) q
theorem isi_bl {n : Bool} (q : Q (.bl false) H) : rIsi K [.bl n, .ty "list"] H Q := isi (.base (.bl _)) (by decide +kernel) q
theorem isi_bt {n : Bool} (q : Q (.bl false) H) : rIsi K [.bl n, .ty "tuple"] H Q := isi (.base (.bl _)) (by decide +kernel) q
theorem isi_bd {n : Bool} (q : Q (.bl false) H) : rIsi K [.bl n, .ty "dict"] H Q := isi (.base (.bl _)) (by decide +kernel) q
theorem isi_si {n : Str} (q : Q (.bl false) H) : rIsi K [.str n, .ty "int"] H Q := isi (.base (.str _)) (by decide +kernel) q
theorem isi_sb {n : Str} (q : Q (.bl false) H) : rIsi K [.str n, .ty "bool"] H Q := isi (.base (.str _)) (by decide +kernel) q
theorem isi_ss {n : Str} (q : Q (.bl true) H) : rIsi K [.str n, .ty "str"] H Q := isi (.base (.str _)) (by decide +kernel) q
theorem isi_sl {n : Str} (q : Q (.bl false) H) : rIsi K [.str n, .ty "list"] H Q := isi (.base (.str _)) (by decide +kernel) q
theorem isi_st {n : Str} (q : Q (.bl false) H) : rIsi K [.str n, .ty "tuple"] H Q := isi (.base (.str _)) (by decide +kernel) q
theorem isi_sd {n : Str} (q : Q (.bl false) H) : rIsi K [.str n, .ty "dict"] H Q := isi (.base (.str _)) (by decide +kernel) q
theorem isi_li {n : Addr} {xs : List V} (h : H n = some (.lst xs)) (q : Q (.bl false) H) : rIsi K [.ref n, .ty "int"] H Q := isi (.base (.lst h)) (by decide +kernel) q
theorem isi_lb {n : Addr} {xs : List V} (h : H n = some (.lst xs)) (q : Q (.bl false) H) : rIsi K [.ref n, .ty "bool"] H Q := isi (.base (.lst h)) (by decide +kernel) q
theorem isi_ls {n : Addr} {xs : List V} (h : H n = some (.lst xs)) (q : Q (.bl false) H) : rIsi K [.ref n, .ty "str"] H Q := isi (.base (.lst h)) (by decide +kernel) q
theorem isi_ll {n : Addr} {xs : List V} (h : H n = some (.lst xs)) (q : Q (.bl true) H) : rIsi K [.ref n, .ty "list"] H Q := isi (.base (.lst h)) (by decide +kernel) q
theorem isi_lt {n : Addr} {xs : List V} (h : H n = some (.lst xs)) (q : Q (.bl false) H) : rIsi K [.ref n, .ty "tuple"] H Q := isi (.base (.lst h)) (by decide +kernel) q
theorem isi_ld {n : Addr} {xs : List V} (h : H n = some (.lst xs)) (q : Q (.bl false) H) : rIsi K [.ref n, .ty "dict"] H Q := isi (.base (.lst h)) (by decide +kernel) q
theorem isi_ti {n : Addr} {xs : List V} (h : H n = some (.tup xs)) (q : Q (.bl false) H) : rIsi K [.ref n, .ty "int"] H Q := isi (.base (.tup h)) (by decide +kernel) q
theorem isi_tb {n : Addr} {xs : List V} (h : H n = some (.tup xs)) (q : Q (.bl false) H) : rIsi K [.ref n, .ty "bool"] H Q := isi (.base (.tup h)) (by decide +kernel) q
theorem isi_ts {n : Addr} {xs : List V} (h : H n = some (.tup xs)) (q : Q (.bl false) H) : rIsi K [.ref n, .ty "str"] H Q := isi (.base (.tup h)) (by decide +kernel) q
theorem isi_tl {n : Addr} {xs : List V} (h : H n = some (.tup xs)) (q : Q (.bl false) H) : rIsi K [.ref n, .ty "list"] H Q := isi (.base (.tup h)) (by decide +kernel) q
theorem isi_tt {n : Addr} {xs : List V} (h : H n = some (.tup xs)) (q : Q (.bl true) H) : rIsi K [.ref n, .ty "tuple"] H Q := isi (.base (.tup h)) (by decide +kernel) q
theorem isi_td {n : Addr} {xs : List V} (h : H n = some (.tup xs)) (q : Q (.bl false) H) : rIsi K [.ref n, .ty "dict"] H Q := isi (.base (.tup h)) (by decide +kernel) q
theorem isi_ni  (q : Q (.bl false) H) : rIsi K [.non, .ty "int"] H Q := isi (.base .non) (by decide +kernel) q
theorem isi_nb  (q : Q (.bl false) H) : rIsi K [.non, .ty "bool"] H Q := isi (.base .non) (by decide +kernel) q
theorem isi_ns  (q : Q (.bl false) H) : rIsi K [.non, .ty "str"] H Q := isi (.base .non) (by decide +kernel) q
theorem isi_nl  (q : Q (.bl false) H) : rIsi K [.non, .ty "list"] H Q := isi (.base .non) (by decide +kernel) q
theorem isi_nt  (q : Q (.bl false) H) : rIsi K [.non, .ty "tuple"] H Q := isi (.base .non) (by decide +kernel) q
theorem isi_nd  (q : Q (.bl false) H) : rIsi K [.non, .ty "dict"] H Q := isi (.base .non) (by decide +kernel) q
/-! ### slices of lists -/
theorem cut_to (xs : List V) (n : Nat) : cutV xs none (some (n : Int)) = xs.take n := by
  unfold cutV
  rw [HT.sIx_nat, HT.sIx_none, List.drop_zero, Nat.sub_zero]
  rcases Nat.le_total n xs.length with h | h
  · rw [Nat.min_eq_left h]
  · rw [Nat.min_eq_right h, List.take_of_length_le (Nat.le_refl _), List.take_of_length_le h]
theorem cut_from (xs : List V) (n : Nat) : cutV xs (some (n : Int)) none = xs.drop n := by
  unfold cutV
  rw [HT.sIx_nat, HT.sIx_none]
  rcases Nat.le_total n xs.length with h | h
  · rw [Nat.min_eq_left h, List.take_of_length_le (by rw [List.length_drop]; omega)]
  · rw [Nat.min_eq_right h, List.drop_of_length_le h, List.drop_of_length_le (Nat.le_refl _), List.take_nil]
theorem eqv_self (d : PyData) (h : d.canLay0 = true) : PyData.eqv d d = true := PySem.SeqAt.eqv_refl d h
/-! ### ints of a list, filtered -/
theorem lc_fl {a : Addr} {ns : List Int} {g : TG} {tt : TT} {te : TE} {vs : List Nat} {σ : L2.St} {H1 : Hp} {C : Addr} {Qd : Hp → Prop} (p : Int → Bool) (hS : SqL K H1 a (ns.map V.int)) (nD : H1 C = none) (hn : ns.length ≤ 90000)
    (hs : ∀ (i : Nat) H (n : Int) (Kt : VK) (Kn : Hp → Prop), ns[i]? = some n → But C H1 H → (p n = true → Kt (.int n) H) → (p n = false → Kn H) → g (.int n) (wipe σ vs) H fun σ2 H2 => wipe σ2 vs = wipe σ vs ∧ tt σ2 H2 fun b H3 => if b = true then te σ2 H3 Kt else Kn H3)
    (hd : ∀ H, Same H1 H → H C = some (.lst ((ns.filter p).map V.int)) → Qd H) :
    ∃ W : Nat → Nat → Hp → Prop, (∃ m, W 0 m (upd H1 C (.lst []))) ∧ ∀ i m H, W i m H →
      ((Itl K a).stop i H ∧ Qd H) ∨ ((Itl K a).go i H ∧ ∃ Nx : Hp → Prop, (∀ H', Nx H' → ∃ m', m' < m ∧ W (i + 1) m' H') ∧ ∀ x H', (Itl K a).yld i H x H' → g x (wipe σ vs) H' fun σ2 H2 => wipe σ2 vs = wipe σ vs ∧ tt σ2 H2 fun b H3 =>
        if b = true then te σ2 H3 fun y H4 => ∃ acc, H4 C = some (.lst acc) ∧ acc.length < sizeLine ∧ Nx (upd H4 C (.lst (acc ++ [y]))) else Nx H3) := by
  refine lc_it (walk_list (xs := ns.map V.int)) (fun i H => But C H1 H ∧ H C = some (.lst (((ns.take i).filter p).map V.int))) ⟨But.at_, by simp [upd_same]⟩ (fun i H _ h => (h.1.to nD).seq hS) (fun i x H H' hi ⟨b, hD⟩ y => ?_) (fun H ⟨b, hD⟩ => ?_)
  · obtain ⟨rfl, hx⟩ := y
    rw [List.getElem?_map] at hx
    obtain ⟨n, hn2, rfl⟩ : ∃ n, ns[i]? = some n ∧ V.int n = x := by
      cases e : ns[i]? with
      | none => rw [e] at hx; cases hx
      | some n => rw [e] at hx; exact ⟨n, rfl, Option.some.inj hx⟩
    have tk : (ns.take (i + 1)).filter p = (ns.take i).filter p ++ [n].filter p := by
      rw [List.take_add_one, hn2, List.filter_append]; rfl
    refine hs i _ n _ _ hn2 b (fun hp => ?_) (fun hp => ?_)
    · refine ⟨_, hD, szl ?_, b.trans But.at_, ?_⟩
      · rw [List.length_map]
        have := List.length_filter_le p (ns.take i)
        rw [List.length_take] at this
        omega
      · rw [upd_same, tk, List.filter_cons_of_pos hp]
        simp
    · refine ⟨b, ?_⟩
      rw [tk, List.filter_cons_of_neg (by simp [hp])]
      simpa using hD
  · rw [List.length_map, List.take_of_length_le (Nat.le_refl _)] at hD
    exact hd H (b.to nD) hD
theorem intI {i : Int} {A : Int → Prop} {B : Prop} (h : A i) : (∃ j, [V.int i] = [.int j] ∧ A j) ∨ B := .inl ⟨i, rfl, h⟩
theorem pos_ne {i : Int} (h : 0 < i) : i ≠ 0 := by omega
theorem ifnT {A B : Prop} (h : B) : if (!true) = true then A else B := by rw [if_neg (by decide)]; exact h
theorem ifnF {A B : Prop} (h : A) : if (!false) = true then A else B := by rw [if_pos (by decide)]; exact h
theorem cbListOfR {tr : TA} (h : tr σ H (ListOf K Q)) : tCB (rListOf K) tr σ H Q := h
def CatL (Q : VK) (x y : V) (H : Hp) : Prop := ∃ l b xs zs, x = .ref l ∧ y = .ref b ∧ H l = some (.lst xs) ∧ H b = some (.lst zs) ∧ xs.length + zs.length ≤ sizeLine ∧ ∀ p, H p = none → Q (.ref p) (upd H p (.lst (xs ++ zs)))
theorem catI (h : CatL Q x y H) : rCat x y H Q := h
theorem cat {a b : Addr} {xs zs : List V} (h1 : H a = some (.lst xs)) (h2 : H b = some (.lst zs)) (s : xs.length + zs.length ≤ 100000) (h : ∀ p H', H p = none → Same H H' → H' p = some (.lst (xs ++ zs)) → Q (.ref p) H') : CatL Q (.ref a) (.ref b) H := ⟨a, b, xs, zs, rfl, rfl, h1, h2, sz s, fun p np => h p _ np (same_new np) upd_same⟩
theorem v16 {a0 a1 a2 a3 a4 a5 a6 a7 a8 a9 a10 a11 a12 a13 a14 a15 : Option V} (h : Q v H) : tVar 16 (a0 :: a1 :: a2 :: a3 :: a4 :: a5 :: a6 :: a7 :: a8 :: a9 :: a10 :: a11 :: a12 :: a13 :: a14 :: a15 :: some v :: r) H Q := ⟨v, rfl, h⟩
theorem n16 {a0 a1 a2 a3 a4 a5 a6 a7 a8 a9 a10 a11 a12 a13 a14 a15 : Option V} {Q : L2.St → Hp → Prop} (h : Q (a0 :: a1 :: a2 :: a3 :: a4 :: a5 :: a6 :: a7 :: a8 :: a9 :: a10 :: a11 :: a12 :: a13 :: a14 :: a15 :: some v :: r) H) : gName 16 v (a0 :: a1 :: a2 :: a3 :: a4 :: a5 :: a6 :: a7 :: a8 :: a9 :: a10 :: a11 :: a12 :: a13 :: a14 :: a15 :: a :: r) H Q := h
theorem g16 {a0 a1 a2 a3 a4 a5 a6 a7 a8 a9 a10 a11 a12 a13 a14 a15 : Option V} {ti : TIp} (h : te (a0 :: a1 :: a2 :: a3 :: a4 :: a5 :: a6 :: a7 :: a8 :: a9 :: a10 :: a11 :: a12 :: a13 :: a14 :: a15 :: some x :: r) H fun y H1 => ti x y H1 fun z H2 => D.nx (a0 :: a1 :: a2 :: a3 :: a4 :: a5 :: a6 :: a7 :: a8 :: a9 :: a10 :: a11 :: a12 :: a13 :: a14 :: a15 :: some z :: r) H2) : tAug 16 te ti D (a0 :: a1 :: a2 :: a3 :: a4 :: a5 :: a6 :: a7 :: a8 :: a9 :: a10 :: a11 :: a12 :: a13 :: a14 :: a15 :: some x :: r) H := ⟨x, rfl, h⟩
theorem v17 {a0 a1 a2 a3 a4 a5 a6 a7 a8 a9 a10 a11 a12 a13 a14 a15 a16 : Option V} (h : Q v H) : tVar 17 (a0 :: a1 :: a2 :: a3 :: a4 :: a5 :: a6 :: a7 :: a8 :: a9 :: a10 :: a11 :: a12 :: a13 :: a14 :: a15 :: a16 :: some v :: r) H Q := ⟨v, rfl, h⟩
theorem n17 {a0 a1 a2 a3 a4 a5 a6 a7 a8 a9 a10 a11 a12 a13 a14 a15 a16 : Option V} {Q : L2.St → Hp → Prop} (h : Q (a0 :: a1 :: a2 :: a3 :: a4 :: a5 :: a6 :: a7 :: a8 :: a9 :: a10 :: a11 :: a12 :: a13 :: a14 :: a15 :: a16 :: some v :: r) H) : gName 17 v (a0 :: a1 :: a2 :: a3 :: a4 :: a5 :: a6 :: a7 :: a8 :: a9 :: a10 :: a11 :: a12 :: a13 :: a14 :: a15 :: a16 :: a :: r) H Q := h
theorem g17 {a0 a1 a2 a3 a4 a5 a6 a7 a8 a9 a10 a11 a12 a13 a14 a15 a16 : Option V} {ti : TIp} (h : te (a0 :: a1 :: a2 :: a3 :: a4 :: a5 :: a6 :: a7 :: a8 :: a9 :: a10 :: a11 :: a12 :: a13 :: a14 :: a15 :: a16 :: some x :: r) H fun y H1 => ti x y H1 fun z H2 => D.nx (a0 :: a1 :: a2 :: a3 :: a4 :: a5 :: a6 :: a7 :: a8 :: a9 :: a10 :: a11 :: a12 :: a13 :: a14 :: a15 :: a16 :: some z :: r) H2) : tAug 17 te ti D (a0 :: a1 :: a2 :: a3 :: a4 :: a5 :: a6 :: a7 :: a8 :: a9 :: a10 :: a11 :: a12 :: a13 :: a14 :: a15 :: a16 :: some x :: r) H := ⟨x, rfl, h⟩
theorem v18 {a0 a1 a2 a3 a4 a5 a6 a7 a8 a9 a10 a11 a12 a13 a14 a15 a16 a17 : Option V} (h : Q v H) : tVar 18 (a0 :: a1 :: a2 :: a3 :: a4 :: a5 :: a6 :: a7 :: a8 :: a9 :: a10 :: a11 :: a12 :: a13 :: a14 :: a15 :: a16 :: a17 :: some v :: r) H Q := ⟨v, rfl, h⟩
theorem n18 {a0 a1 a2 a3 a4 a5 a6 a7 a8 a9 a10 a11 a12 a13 a14 a15 a16 a17 : Option V} {Q : L2.St → Hp → Prop} (h : Q (a0 :: a1 :: a2 :: a3 :: a4 :: a5 :: a6 :: a7 :: a8 :: a9 :: a10 :: a11 :: a12 :: a13 :: a14 :: a15 :: a16 :: a17 :: some v :: r) H) : gName 18 v (a0 :: a1 :: a2 :: a3 :: a4 :: a5 :: a6 :: a7 :: a8 :: a9 :: a10 :: a11 :: a12 :: a13 :: a14 :: a15 :: a16 :: a17 :: a :: r) H Q := h
theorem g18 {a0 a1 a2 a3 a4 a5 a6 a7 a8 a9 a10 a11 a12 a13 a14 a15 a16 a17 : Option V} {ti : TIp} (h : te (a0 :: a1 :: a2 :: a3 :: a4 :: a5 :: a6 :: a7 :: a8 :: a9 :: a10 :: a11 :: a12 :: a13 :: a14 :: a15 :: a16 :: a17 :: some x :: r) H fun y H1 => ti x y H1 fun z H2 => D.nx (a0 :: a1 :: a2 :: a3 :: a4 :: a5 :: a6 :: a7 :: a8 :: a9 :: a10 :: a11 :: a12 :: a13 :: a14 :: a15 :: a16 :: a17 :: some z :: r) H2) : tAug 18 te ti D (a0 :: a1 :: a2 :: a3 :: a4 :: a5 :: a6 :: a7 :: a8 :: a9 :: a10 :: a11 :: a12 :: a13 :: a14 :: a15 :: a16 :: a17 :: some x :: r) H := ⟨x, rfl, h⟩
theorem v19 {a0 a1 a2 a3 a4 a5 a6 a7 a8 a9 a10 a11 a12 a13 a14 a15 a16 a17 a18 : Option V} (h : Q v H) : tVar 19 (a0 :: a1 :: a2 :: a3 :: a4 :: a5 :: a6 :: a7 :: a8 :: a9 :: a10 :: a11 :: a12 :: a13 :: a14 :: a15 :: a16 :: a17 :: a18 :: some v :: r) H Q := ⟨v, rfl, h⟩
theorem n19 {a0 a1 a2 a3 a4 a5 a6 a7 a8 a9 a10 a11 a12 a13 a14 a15 a16 a17 a18 : Option V} {Q : L2.St → Hp → Prop} (h : Q (a0 :: a1 :: a2 :: a3 :: a4 :: a5 :: a6 :: a7 :: a8 :: a9 :: a10 :: a11 :: a12 :: a13 :: a14 :: a15 :: a16 :: a17 :: a18 :: some v :: r) H) : gName 19 v (a0 :: a1 :: a2 :: a3 :: a4 :: a5 :: a6 :: a7 :: a8 :: a9 :: a10 :: a11 :: a12 :: a13 :: a14 :: a15 :: a16 :: a17 :: a18 :: a :: r) H Q := h
theorem g19 {a0 a1 a2 a3 a4 a5 a6 a7 a8 a9 a10 a11 a12 a13 a14 a15 a16 a17 a18 : Option V} {ti : TIp} (h : te (a0 :: a1 :: a2 :: a3 :: a4 :: a5 :: a6 :: a7 :: a8 :: a9 :: a10 :: a11 :: a12 :: a13 :: a14 :: a15 :: a16 :: a17 :: a18 :: some x :: r) H fun y H1 => ti x y H1 fun z H2 => D.nx (a0 :: a1 :: a2 :: a3 :: a4 :: a5 :: a6 :: a7 :: a8 :: a9 :: a10 :: a11 :: a12 :: a13 :: a14 :: a15 :: a16 :: a17 :: a18 :: some z :: r) H2) : tAug 19 te ti D (a0 :: a1 :: a2 :: a3 :: a4 :: a5 :: a6 :: a7 :: a8 :: a9 :: a10 :: a11 :: a12 :: a13 :: a14 :: a15 :: a16 :: a17 :: a18 :: some x :: r) H := ⟨x, rfl, h⟩
theorem v20 {a0 a1 a2 a3 a4 a5 a6 a7 a8 a9 a10 a11 a12 a13 a14 a15 a16 a17 a18 a19 : Option V} (h : Q v H) : tVar 20 (a0 :: a1 :: a2 :: a3 :: a4 :: a5 :: a6 :: a7 :: a8 :: a9 :: a10 :: a11 :: a12 :: a13 :: a14 :: a15 :: a16 :: a17 :: a18 :: a19 :: some v :: r) H Q := ⟨v, rfl, h⟩
theorem n20 {a0 a1 a2 a3 a4 a5 a6 a7 a8 a9 a10 a11 a12 a13 a14 a15 a16 a17 a18 a19 : Option V} {Q : L2.St → Hp → Prop} (h : Q (a0 :: a1 :: a2 :: a3 :: a4 :: a5 :: a6 :: a7 :: a8 :: a9 :: a10 :: a11 :: a12 :: a13 :: a14 :: a15 :: a16 :: a17 :: a18 :: a19 :: some v :: r) H) : gName 20 v (a0 :: a1 :: a2 :: a3 :: a4 :: a5 :: a6 :: a7 :: a8 :: a9 :: a10 :: a11 :: a12 :: a13 :: a14 :: a15 :: a16 :: a17 :: a18 :: a19 :: a :: r) H Q := h
theorem g20 {a0 a1 a2 a3 a4 a5 a6 a7 a8 a9 a10 a11 a12 a13 a14 a15 a16 a17 a18 a19 : Option V} {ti : TIp} (h : te (a0 :: a1 :: a2 :: a3 :: a4 :: a5 :: a6 :: a7 :: a8 :: a9 :: a10 :: a11 :: a12 :: a13 :: a14 :: a15 :: a16 :: a17 :: a18 :: a19 :: some x :: r) H fun y H1 => ti x y H1 fun z H2 => D.nx (a0 :: a1 :: a2 :: a3 :: a4 :: a5 :: a6 :: a7 :: a8 :: a9 :: a10 :: a11 :: a12 :: a13 :: a14 :: a15 :: a16 :: a17 :: a18 :: a19 :: some z :: r) H2) : tAug 20 te ti D (a0 :: a1 :: a2 :: a3 :: a4 :: a5 :: a6 :: a7 :: a8 :: a9 :: a10 :: a11 :: a12 :: a13 :: a14 :: a15 :: a16 :: a17 :: a18 :: a19 :: some x :: r) H := ⟨x, rfl, h⟩
theorem v21 {a0 a1 a2 a3 a4 a5 a6 a7 a8 a9 a10 a11 a12 a13 a14 a15 a16 a17 a18 a19 a20 : Option V} (h : Q v H) : tVar 21 (a0 :: a1 :: a2 :: a3 :: a4 :: a5 :: a6 :: a7 :: a8 :: a9 :: a10 :: a11 :: a12 :: a13 :: a14 :: a15 :: a16 :: a17 :: a18 :: a19 :: a20 :: some v :: r) H Q := ⟨v, rfl, h⟩
theorem n21 {a0 a1 a2 a3 a4 a5 a6 a7 a8 a9 a10 a11 a12 a13 a14 a15 a16 a17 a18 a19 a20 : Option V} {Q : L2.St → Hp → Prop} (h : Q (a0 :: a1 :: a2 :: a3 :: a4 :: a5 :: a6 :: a7 :: a8 :: a9 :: a10 :: a11 :: a12 :: a13 :: a14 :: a15 :: a16 :: a17 :: a18 :: a19 :: a20 :: some v :: r) H) : gName 21 v (a0 :: a1 :: a2 :: a3 :: a4 :: a5 :: a6 :: a7 :: a8 :: a9 :: a10 :: a11 :: a12 :: a13 :: a14 :: a15 :: a16 :: a17 :: a18 :: a19 :: a20 :: a :: r) H Q := h
theorem g21 {a0 a1 a2 a3 a4 a5 a6 a7 a8 a9 a10 a11 a12 a13 a14 a15 a16 a17 a18 a19 a20 : Option V} {ti : TIp} (h : te (a0 :: a1 :: a2 :: a3 :: a4 :: a5 :: a6 :: a7 :: a8 :: a9 :: a10 :: a11 :: a12 :: a13 :: a14 :: a15 :: a16 :: a17 :: a18 :: a19 :: a20 :: some x :: r) H fun y H1 => ti x y H1 fun z H2 => D.nx (a0 :: a1 :: a2 :: a3 :: a4 :: a5 :: a6 :: a7 :: a8 :: a9 :: a10 :: a11 :: a12 :: a13 :: a14 :: a15 :: a16 :: a17 :: a18 :: a19 :: a20 :: some z :: r) H2) : tAug 21 te ti D (a0 :: a1 :: a2 :: a3 :: a4 :: a5 :: a6 :: a7 :: a8 :: a9 :: a10 :: a11 :: a12 :: a13 :: a14 :: a15 :: a16 :: a17 :: a18 :: a19 :: a20 :: some x :: r) H := ⟨x, rfl, h⟩
theorem v22 {a0 a1 a2 a3 a4 a5 a6 a7 a8 a9 a10 a11 a12 a13 a14 a15 a16 a17 a18 a19 a20 a21 : Option V} (h : Q v H) : tVar 22 (a0 :: a1 :: a2 :: a3 :: a4 :: a5 :: a6 :: a7 :: a8 :: a9 :: a10 :: a11 :: a12 :: a13 :: a14 :: a15 :: a16 :: a17 :: a18 :: a19 :: a20 :: a21 :: some v :: r) H Q := ⟨v, rfl, h⟩
theorem n22 {a0 a1 a2 a3 a4 a5 a6 a7 a8 a9 a10 a11 a12 a13 a14 a15 a16 a17 a18 a19 a20 a21 : Option V} {Q : L2.St → Hp → Prop} (h : Q (a0 :: a1 :: a2 :: a3 :: a4 :: a5 :: a6 :: a7 :: a8 :: a9 :: a10 :: a11 :: a12 :: a13 :: a14 :: a15 :: a16 :: a17 :: a18 :: a19 :: a20 :: a21 :: some v :: r) H) : gName 22 v (a0 :: a1 :: a2 :: a3 :: a4 :: a5 :: a6 :: a7 :: a8 :: a9 :: a10 :: a11 :: a12 :: a13 :: a14 :: a15 :: a16 :: a17 :: a18 :: a19 :: a20 :: a21 :: a :: r) H Q := h
theorem g22 {a0 a1 a2 a3 a4 a5 a6 a7 a8 a9 a10 a11 a12 a13 a14 a15 a16 a17 a18 a19 a20 a21 : Option V} {ti : TIp} (h : te (a0 :: a1 :: a2 :: a3 :: a4 :: a5 :: a6 :: a7 :: a8 :: a9 :: a10 :: a11 :: a12 :: a13 :: a14 :: a15 :: a16 :: a17 :: a18 :: a19 :: a20 :: a21 :: some x :: r) H fun y H1 => ti x y H1 fun z H2 => D.nx (a0 :: a1 :: a2 :: a3 :: a4 :: a5 :: a6 :: a7 :: a8 :: a9 :: a10 :: a11 :: a12 :: a13 :: a14 :: a15 :: a16 :: a17 :: a18 :: a19 :: a20 :: a21 :: some z :: r) H2) : tAug 22 te ti D (a0 :: a1 :: a2 :: a3 :: a4 :: a5 :: a6 :: a7 :: a8 :: a9 :: a10 :: a11 :: a12 :: a13 :: a14 :: a15 :: a16 :: a17 :: a18 :: a19 :: a20 :: a21 :: some x :: r) H := ⟨x, rfl, h⟩
theorem v23 {a0 a1 a2 a3 a4 a5 a6 a7 a8 a9 a10 a11 a12 a13 a14 a15 a16 a17 a18 a19 a20 a21 a22 : Option V} (h : Q v H) : tVar 23 (a0 :: a1 :: a2 :: a3 :: a4 :: a5 :: a6 :: a7 :: a8 :: a9 :: a10 :: a11 :: a12 :: a13 :: a14 :: a15 :: a16 :: a17 :: a18 :: a19 :: a20 :: a21 :: a22 :: some v :: r) H Q := ⟨v, rfl, h⟩
theorem n23 {a0 a1 a2 a3 a4 a5 a6 a7 a8 a9 a10 a11 a12 a13 a14 a15 a16 a17 a18 a19 a20 a21 a22 : Option V} {Q : L2.St → Hp → Prop} (h : Q (a0 :: a1 :: a2 :: a3 :: a4 :: a5 :: a6 :: a7 :: a8 :: a9 :: a10 :: a11 :: a12 :: a13 :: a14 :: a15 :: a16 :: a17 :: a18 :: a19 :: a20 :: a21 :: a22 :: some v :: r) H) : gName 23 v (a0 :: a1 :: a2 :: a3 :: a4 :: a5 :: a6 :: a7 :: a8 :: a9 :: a10 :: a11 :: a12 :: a13 :: a14 :: a15 :: a16 :: a17 :: a18 :: a19 :: a20 :: a21 :: a22 :: a :: r) H Q := h
theorem g23 {a0 a1 a2 a3 a4 a5 a6 a7 a8 a9 a10 a11 a12 a13 a14 a15 a16 a17 a18 a19 a20 a21 a22 : Option V} {ti : TIp} (h : te (a0 :: a1 :: a2 :: a3 :: a4 :: a5 :: a6 :: a7 :: a8 :: a9 :: a10 :: a11 :: a12 :: a13 :: a14 :: a15 :: a16 :: a17 :: a18 :: a19 :: a20 :: a21 :: a22 :: some x :: r) H fun y H1 => ti x y H1 fun z H2 => D.nx (a0 :: a1 :: a2 :: a3 :: a4 :: a5 :: a6 :: a7 :: a8 :: a9 :: a10 :: a11 :: a12 :: a13 :: a14 :: a15 :: a16 :: a17 :: a18 :: a19 :: a20 :: a21 :: a22 :: some z :: r) H2) : tAug 23 te ti D (a0 :: a1 :: a2 :: a3 :: a4 :: a5 :: a6 :: a7 :: a8 :: a9 :: a10 :: a11 :: a12 :: a13 :: a14 :: a15 :: a16 :: a17 :: a18 :: a19 :: a20 :: a21 :: a22 :: some x :: r) H := ⟨x, rfl, h⟩
theorem v24 {a0 a1 a2 a3 a4 a5 a6 a7 a8 a9 a10 a11 a12 a13 a14 a15 a16 a17 a18 a19 a20 a21 a22 a23 : Option V} (h : Q v H) : tVar 24 (a0 :: a1 :: a2 :: a3 :: a4 :: a5 :: a6 :: a7 :: a8 :: a9 :: a10 :: a11 :: a12 :: a13 :: a14 :: a15 :: a16 :: a17 :: a18 :: a19 :: a20 :: a21 :: a22 :: a23 :: some v :: r) H Q := ⟨v, rfl, h⟩
theorem n24 {a0 a1 a2 a3 a4 a5 a6 a7 a8 a9 a10 a11 a12 a13 a14 a15 a16 a17 a18 a19 a20 a21 a22 a23 : Option V} {Q : L2.St → Hp → Prop} (h : Q (a0 :: a1 :: a2 :: a3 :: a4 :: a5 :: a6 :: a7 :: a8 :: a9 :: a10 :: a11 :: a12 :: a13 :: a14 :: a15 :: a16 :: a17 :: a18 :: a19 :: a20 :: a21 :: a22 :: a23 :: some v :: r) H) : gName 24 v (a0 :: a1 :: a2 :: a3 :: a4 :: a5 :: a6 :: a7 :: a8 :: a9 :: a10 :: a11 :: a12 :: a13 :: a14 :: a15 :: a16 :: a17 :: a18 :: a19 :: a20 :: a21 :: a22 :: a23 :: a :: r) H Q := h
theorem g24 {a0 a1 a2 a3 a4 a5 a6 a7 a8 a9 a10 a11 a12 a13 a14 a15 a16 a17 a18 a19 a20 a21 a22 a23 : Option V} {ti : TIp} (h : te (a0 :: a1 :: a2 :: a3 :: a4 :: a5 :: a6 :: a7 :: a8 :: a9 :: a10 :: a11 :: a12 :: a13 :: a14 :: a15 :: a16 :: a17 :: a18 :: a19 :: a20 :: a21 :: a22 :: a23 :: some x :: r) H fun y H1 => ti x y H1 fun z H2 => D.nx (a0 :: a1 :: a2 :: a3 :: a4 :: a5 :: a6 :: a7 :: a8 :: a9 :: a10 :: a11 :: a12 :: a13 :: a14 :: a15 :: a16 :: a17 :: a18 :: a19 :: a20 :: a21 :: a22 :: a23 :: some z :: r) H2) : tAug 24 te ti D (a0 :: a1 :: a2 :: a3 :: a4 :: a5 :: a6 :: a7 :: a8 :: a9 :: a10 :: a11 :: a12 :: a13 :: a14 :: a15 :: a16 :: a17 :: a18 :: a19 :: a20 :: a21 :: a22 :: a23 :: some x :: r) H := ⟨x, rfl, h⟩
theorem v25 {a0 a1 a2 a3 a4 a5 a6 a7 a8 a9 a10 a11 a12 a13 a14 a15 a16 a17 a18 a19 a20 a21 a22 a23 a24 : Option V} (h : Q v H) : tVar 25 (a0 :: a1 :: a2 :: a3 :: a4 :: a5 :: a6 :: a7 :: a8 :: a9 :: a10 :: a11 :: a12 :: a13 :: a14 :: a15 :: a16 :: a17 :: a18 :: a19 :: a20 :: a21 :: a22 :: a23 :: a24 :: some v :: r) H Q := ⟨v, rfl, h⟩
theorem n25 {a0 a1 a2 a3 a4 a5 a6 a7 a8 a9 a10 a11 a12 a13 a14 a15 a16 a17 a18 a19 a20 a21 a22 a23 a24 : Option V} {Q : L2.St → Hp → Prop} (h : Q (a0 :: a1 :: a2 :: a3 :: a4 :: a5 :: a6 :: a7 :: a8 :: a9 :: a10 :: a11 :: a12 :: a13 :: a14 :: a15 :: a16 :: a17 :: a18 :: a19 :: a20 :: a21 :: a22 :: a23 :: a24 :: some v :: r) H) : gName 25 v (a0 :: a1 :: a2 :: a3 :: a4 :: a5 :: a6 :: a7 :: a8 :: a9 :: a10 :: a11 :: a12 :: a13 :: a14 :: a15 :: a16 :: a17 :: a18 :: a19 :: a20 :: a21 :: a22 :: a23 :: a24 :: a :: r) H Q := h
theorem g25 {a0 a1 a2 a3 a4 a5 a6 a7 a8 a9 a10 a11 a12 a13 a14 a15 a16 a17 a18 a19 a20 a21 a22 a23 a24 : Option V} {ti : TIp} (h : te (a0 :: a1 :: a2 :: a3 :: a4 :: a5 :: a6 :: a7 :: a8 :: a9 :: a10 :: a11 :: a12 :: a13 :: a14 :: a15 :: a16 :: a17 :: a18 :: a19 :: a20 :: a21 :: a22 :: a23 :: a24 :: some x :: r) H fun y H1 => ti x y H1 fun z H2 => D.nx (a0 :: a1 :: a2 :: a3 :: a4 :: a5 :: a6 :: a7 :: a8 :: a9 :: a10 :: a11 :: a12 :: a13 :: a14 :: a15 :: a16 :: a17 :: a18 :: a19 :: a20 :: a21 :: a22 :: a23 :: a24 :: some z :: r) H2) : tAug 25 te ti D (a0 :: a1 :: a2 :: a3 :: a4 :: a5 :: a6 :: a7 :: a8 :: a9 :: a10 :: a11 :: a12 :: a13 :: a14 :: a15 :: a16 :: a17 :: a18 :: a19 :: a20 :: a21 :: a22 :: a23 :: a24 :: some x :: r) H := ⟨x, rfl, h⟩
theorem v26 {a0 a1 a2 a3 a4 a5 a6 a7 a8 a9 a10 a11 a12 a13 a14 a15 a16 a17 a18 a19 a20 a21 a22 a23 a24 a25 : Option V} (h : Q v H) : tVar 26 (a0 :: a1 :: a2 :: a3 :: a4 :: a5 :: a6 :: a7 :: a8 :: a9 :: a10 :: a11 :: a12 :: a13 :: a14 :: a15 :: a16 :: a17 :: a18 :: a19 :: a20 :: a21 :: a22 :: a23 :: a24 :: a25 :: some v :: r) H Q := ⟨v, rfl, h⟩
theorem n26 {a0 a1 a2 a3 a4 a5 a6 a7 a8 a9 a10 a11 a12 a13 a14 a15 a16 a17 a18 a19 a20 a21 a22 a23 a24 a25 : Option V} {Q : L2.St → Hp → Prop} (h : Q (a0 :: a1 :: a2 :: a3 :: a4 :: a5 :: a6 :: a7 :: a8 :: a9 :: a10 :: a11 :: a12 :: a13 :: a14 :: a15 :: a16 :: a17 :: a18 :: a19 :: a20 :: a21 :: a22 :: a23 :: a24 :: a25 :: some v :: r) H) : gName 26 v (a0 :: a1 :: a2 :: a3 :: a4 :: a5 :: a6 :: a7 :: a8 :: a9 :: a10 :: a11 :: a12 :: a13 :: a14 :: a15 :: a16 :: a17 :: a18 :: a19 :: a20 :: a21 :: a22 :: a23 :: a24 :: a25 :: a :: r) H Q := h
theorem g26 {a0 a1 a2 a3 a4 a5 a6 a7 a8 a9 a10 a11 a12 a13 a14 a15 a16 a17 a18 a19 a20 a21 a22 a23 a24 a25 : Option V} {ti : TIp} (h : te (a0 :: a1 :: a2 :: a3 :: a4 :: a5 :: a6 :: a7 :: a8 :: a9 :: a10 :: a11 :: a12 :: a13 :: a14 :: a15 :: a16 :: a17 :: a18 :: a19 :: a20 :: a21 :: a22 :: a23 :: a24 :: a25 :: some x :: r) H fun y H1 => ti x y H1 fun z H2 => D.nx (a0 :: a1 :: a2 :: a3 :: a4 :: a5 :: a6 :: a7 :: a8 :: a9 :: a10 :: a11 :: a12 :: a13 :: a14 :: a15 :: a16 :: a17 :: a18 :: a19 :: a20 :: a21 :: a22 :: a23 :: a24 :: a25 :: some z :: r) H2) : tAug 26 te ti D (a0 :: a1 :: a2 :: a3 :: a4 :: a5 :: a6 :: a7 :: a8 :: a9 :: a10 :: a11 :: a12 :: a13 :: a14 :: a15 :: a16 :: a17 :: a18 :: a19 :: a20 :: a21 :: a22 :: a23 :: a24 :: a25 :: some x :: r) H := ⟨x, rfl, h⟩
theorem v27 {a0 a1 a2 a3 a4 a5 a6 a7 a8 a9 a10 a11 a12 a13 a14 a15 a16 a17 a18 a19 a20 a21 a22 a23 a24 a25 a26 : Option V} (h : Q v H) : tVar 27 (a0 :: a1 :: a2 :: a3 :: a4 :: a5 :: a6 :: a7 :: a8 :: a9 :: a10 :: a11 :: a12 :: a13 :: a14 :: a15 :: a16 :: a17 :: a18 :: a19 :: a20 :: a21 :: a22 :: a23 :: a24 :: a25 :: a26 :: some v :: r) H Q := ⟨v, rfl, h⟩
theorem n27 {a0 a1 a2 a3 a4 a5 a6 a7 a8 a9 a10 a11 a12 a13 a14 a15 a16 a17 a18 a19 a20 a21 a22 a23 a24 a25 a26 : Option V} {Q : L2.St → Hp → Prop} (h : Q (a0 :: a1 :: a2 :: a3 :: a4 :: a5 :: a6 :: a7 :: a8 :: a9 :: a10 :: a11 :: a12 :: a13 :: a14 :: a15 :: a16 :: a17 :: a18 :: a19 :: a20 :: a21 :: a22 :: a23 :: a24 :: a25 :: a26 :: some v :: r) H) : gName 27 v (a0 :: a1 :: a2 :: a3 :: a4 :: a5 :: a6 :: a7 :: a8 :: a9 :: a10 :: a11 :: a12 :: a13 :: a14 :: a15 :: a16 :: a17 :: a18 :: a19 :: a20 :: a21 :: a22 :: a23 :: a24 :: a25 :: a26 :: a :: r) H Q := h
theorem g27 {a0 a1 a2 a3 a4 a5 a6 a7 a8 a9 a10 a11 a12 a13 a14 a15 a16 a17 a18 a19 a20 a21 a22 a23 a24 a25 a26 : Option V} {ti : TIp} (h : te (a0 :: a1 :: a2 :: a3 :: a4 :: a5 :: a6 :: a7 :: a8 :: a9 :: a10 :: a11 :: a12 :: a13 :: a14 :: a15 :: a16 :: a17 :: a18 :: a19 :: a20 :: a21 :: a22 :: a23 :: a24 :: a25 :: a26 :: some x :: r) H fun y H1 => ti x y H1 fun z H2 => D.nx (a0 :: a1 :: a2 :: a3 :: a4 :: a5 :: a6 :: a7 :: a8 :: a9 :: a10 :: a11 :: a12 :: a13 :: a14 :: a15 :: a16 :: a17 :: a18 :: a19 :: a20 :: a21 :: a22 :: a23 :: a24 :: a25 :: a26 :: some z :: r) H2) : tAug 27 te ti D (a0 :: a1 :: a2 :: a3 :: a4 :: a5 :: a6 :: a7 :: a8 :: a9 :: a10 :: a11 :: a12 :: a13 :: a14 :: a15 :: a16 :: a17 :: a18 :: a19 :: a20 :: a21 :: a22 :: a23 :: a24 :: a25 :: a26 :: some x :: r) H := ⟨x, rfl, h⟩
end Rd

set_option Elab.async false
set_option linter.all false
set_option maxRecDepth 100000
namespace Rd
open PySem PySem.Spec PyProof.Rows L2
variable {K : PySem.W.Frag} {σ : L2.St} {H : Hp} {D : Ends} {Q : VK} {ta tb te tv : TE} {x y v : V} {tr : TA} {f m : Str} {C : Addr} {sp : Sp} {dvs : List V} {E : XK}
/-! ### objects of own classes -/
def FldG (K : PySem.W.Frag) (x : V) (f : Str) (Q : VK) (H : Hp) : Prop := ∃ a C dx fs v, x = .ref a ∧ H a = some (.ins C dx fs) ∧ Cls K C ∧ NoAttr K C f ∧ fs.lookup f = some v ∧ Q v H
theorem fld (h : te σ H fun x H1 => FldG K x f Q H1) : tFld K te f σ H Q := h
theorem fldI {a dx : Addr} {fs : List (Str × V)} (h : H a = some (.ins C dx fs)) (c : Cls K C) (n : NoAttr K C f) (e : fs.lookup f = some v) (q : Q v H) : FldG K (.ref a) f Q H := ⟨a, C, dx, fs, v, rfl, h, c, n, e, q⟩
def SfG (K : PySem.W.Frag) (x : V) (f : Str) (y : V) (D : Ends) (σ : L2.St) (H : Hp) : Prop := ∃ a C dx fs, x = .ref a ∧ H a = some (.ins C dx fs) ∧ Cls K C ∧ NoAttr K C f ∧ fs.length < 1000 ∧ D.nx σ (upd H a (.ins C dx (putF f y fs)))
theorem sfld (h : tv σ H fun y H1 => ta σ H1 fun x H2 => SfG K x f y D σ H2) : sFld K ta tv f D σ H := h
theorem sfldI {a dx : Addr} {fs : List (Str × V)} (h : H a = some (.ins C dx fs)) (c : Cls K C) (n : NoAttr K C f) (l : fs.length < 1000) (q : D.nx σ (upd H a (.ins C dx (putF f y fs)))) : SfG K (.ref a) f y D σ H := ⟨a, C, dx, fs, rfl, h, c, n, l, q⟩
def MtG (C : Addr) (m : Str) (sp : Sp) (dvs : List V) (E : XK) (t : TA) (σ : L2.St) (Q : VK) (x : V) (H : Hp) : Prop := ∃ a dx fs, x = .ref a ∧ H a = some (.ins C dx fs) ∧ fs.lookup m = none ∧ t σ H fun vs H2 => sp (x :: (vs ++ dvs)) H2 Q E
theorem meth (h : ta σ H fun x H1 => MtG C m sp dvs E tr σ Q x H1) : tMeth C m sp dvs E ta tr σ H Q := h
theorem methI {a dx : Addr} {fs : List (Str × V)} (h : H a = some (.ins C dx fs)) (n : fs.lookup m = none) (q : tr σ H fun vs H2 => sp (.ref a :: (vs ++ dvs)) H2 Q E) : MtG C m sp dvs E tr σ Q (.ref a) H := ⟨a, dx, fs, rfl, h, n, q⟩
def MkG (C : Addr) (sp : Sp) (dvs : List V) (E : XK) (Q : VK) (vs : List V) (H1 : Hp) : Prop := ∀ x dx, H1 x = none → H1 dx = none → dx ≠ x → sp (.ref x :: (vs ++ dvs)) (upd (upd H1 dx (.own x)) x (.ins C dx [])) (fun v H2 => v = .non ∧ Q (.ref x) H2) E
theorem make (h : tr σ H fun vs H1 => MkG C sp dvs E Q vs H1) : tMake C sp dvs E tr σ H Q := h
theorem popI {l : Addr} {xs : List V} (h : H l = some (.lst xs)) (e : xs[xs.length - 1]? = some y) (q : Q y (upd H l (.lst xs.dropLast))) : rPop (.ref l) [] H Q := ⟨l, xs, y, rfl, rfl, h, e, q⟩
theorem maxL {a : Addr} {ns : List Int} (h : H a = some (.lst (ns.map V.int))) (l : 0 < ns.length) (q : ∀ m, m ∈ ns → (∀ y, y ∈ ns → y ≤ m) → Q (.int m) H) : rMax K [.ref a] H Q := ⟨a, ns, rfl, SqL.of h, l, q⟩
theorem anyL {a : Addr} {bs : List Bool} (h : H a = some (.lst (bs.map V.bl))) (q : Q (.bl (bs.any id)) H) : rAny K [.ref a] H Q := ⟨a, bs, rfl, SqL.of h, q⟩
theorem sumL {a : Addr} {ns : List Int} (h : H a = some (.lst (ns.map V.int))) (q : Q (.int ns.sum) H) : rSum K [.ref a] H Q := ⟨a, ns, rfl, SqL.of h, q⟩
variable {R : It → Hp → Prop}
theorem izip (h : tr σ H fun vs H1 => ∃ a b xs ys, vs = [.ref a, .ref b] ∧ ((SqL K H1 a xs ∧ SqL K H1 b ys ∧ R (Itz K a b) H1) ∨ (SqT K H1 a xs ∧ SqT K H1 b ys ∧ R (RZ.ItzT K a b) H1))) : RZ.iZipA K tr σ H R := h
theorem izI {a b : Addr} {xs ys : List V} {A : Addr → Addr → Prop} {B : Addr → Addr → Prop} (h1 : H a = some (.lst xs)) (h2 : H b = some (.lst ys)) (q : A a b) : ∃ a' b' xs ys, [V.ref a, .ref b] = [.ref a', .ref b'] ∧ ((SqL K H a' xs ∧ SqL K H b' ys ∧ A a' b') ∨ (SqT K H a' xs ∧ SqT K H b' ys ∧ B a' b')) := ⟨a, b, xs, ys, rfl, .inl ⟨SqL.of h1, SqL.of h2, q⟩⟩
end Rd

set_option Elab.async false
set_option linter.all false
set_option maxRecDepth 100000
set_option maxHeartbeats 1000000


namespace Mine
open PySem PySem.Spec PyProof.Rows L2
local macro_rules | `(tactic| walk_at "my rn") => `(tactic| (repeat (first | with_reducible refine Rd.fld ?_ | with_reducible refine Rd.sfld ?_ | with_reducible refine Rd.meth ?_ | with_reducible refine Rd.make ?_ | with_reducible refine Rd.izip ?_ | with_reducible refine Rd.tupN ?_ | with_reducible refine Rd.lstN ?_ | with_reducible refine Rd.cbListOf ?_ | with_reducible refine Rd.cbListOfR ?_ | with_reducible refine Rd.catI ?_ | with_reducible refine Rd.slN ?_ | with_reducible refine Rd.cbSrtI ?_ | with_reducible refine Rd.seq ?_ | with_reducible refine Rd.next ?_ | with_reducible refine Rd.brk ?_ | with_reducible refine Rd.cont ?_ | with_reducible refine Rd.asg ?_ | with_reducible refine Rd.ret ?_ | with_reducible refine Rd.retN ?_ | with_reducible refine Rd.drop ?_ | with_reducible refine Rd.ifs ?_ | with_reducible refine Rd.ife ?_ | with_reducible refine Rd.test ?_ | with_reducible refine Rd.tb_ ?_ | with_reducible refine Rd.bl ?_ | with_reducible refine Rd.bl2 ?_ | with_reducible refine Rd.and_ ?_ | with_reducible refine Rd.or_ ?_ | with_reducible refine Rd.not_ ?_ | with_reducible refine Rd.andV ?_ | with_reducible refine Rd.orV ?_ | with_reducible refine Rd.notV ?_ | with_reducible refine Rd.op ?_ | with_reducible refine Rd.un ?_ | with_reducible refine Rd.I0 ?_ | with_reducible refine Rd.U ?_ | with_reducible refine Rd.ip ?_ | with_reducible refine Rd.c_ ?_ | with_reducible refine Rd.nil ?_ | with_reducible refine Rd.cons ?_ | with_reducible refine Rd.call ?_ | with_reducible refine Rd.cb ?_ | with_reducible refine Rd.bm ?_ | with_reducible refine Rd.bm0 ?_ | with_reducible refine Rd.nopart ?_ | with_reducible refine Rd.part ?_ | with_reducible refine Rd.int1 ?_ | with_reducible refine Rd.ints1 ?_ | with_reducible refine Rd.ints2 ?_ | with_reducible refine Rd.gcons ?_ | with_reducible refine Rd.gnil ?_ | with_reducible refine Rd.sub ?_ | with_reducible refine Rd.isN ?_ | with_reducible refine Rd.chain ?_ | with_reducible refine Rd.rf ?_ | with_reducible refine Rd.tyS ?_ | with_reducible refine Rd.intI ?_ | with_reducible refine Rd.lc ?_ | with_reducible refine Rd.for_ ?_ | with_reducible refine Rd.ilist ?_ | with_reducible refine Rd.itup ?_ | with_reducible refine Rd.irng1 ?_ | with_reducible refine Rd.irng2 ?_ | with_reducible refine Rd.ienum ?_ | with_reducible refine Rd.istr ?_ | with_reducible refine Rd.refA ?_ | with_reducible refine Rd.strA ?_ | with_reducible refine Rd.yes ?_ | with_reducible refine Rd.ifT ?_ | with_reducible refine Rd.ifF ?_ | with_reducible refine Rd.ifnT ?_ | with_reducible refine Rd.ifnF ?_ | with_reducible refine Rd.isi_ii ?_ | with_reducible refine Rd.isi_ib ?_ | with_reducible refine Rd.isi_is ?_ | with_reducible refine Rd.isi_il ?_ | with_reducible refine Rd.isi_it ?_ | with_reducible refine Rd.isi_id ?_ | with_reducible refine Rd.isi_bi ?_ | with_reducible refine Rd.isi_bb ?_ | with_reducible refine Rd.isi_bs ?_ | with_reducible refine Rd.isi_bl ?_ | with_reducible refine Rd.isi_bt ?_ | with_reducible refine Rd.isi_bd ?_ | with_reducible refine Rd.isi_si ?_ | with_reducible refine Rd.isi_sb ?_ | with_reducible refine Rd.isi_ss ?_ | with_reducible refine Rd.isi_sl ?_ | with_reducible refine Rd.isi_st ?_ | with_reducible refine Rd.isi_sd ?_ | with_reducible refine Rd.isi_ni ?_ | with_reducible refine Rd.isi_nb ?_ | with_reducible refine Rd.isi_ns ?_ | with_reducible refine Rd.isi_nl ?_ | with_reducible refine Rd.isi_nt ?_ | with_reducible refine Rd.isi_nd ?_ | with_reducible refine Rd.sl ?_ | with_reducible refine Rd.v0 ?_ | with_reducible refine Rd.v1 ?_ | with_reducible refine Rd.v2 ?_ | with_reducible refine Rd.v3 ?_ | with_reducible refine Rd.v4 ?_ | with_reducible refine Rd.v5 ?_ | with_reducible refine Rd.v6 ?_ | with_reducible refine Rd.v7 ?_ | with_reducible refine Rd.v8 ?_ | with_reducible refine Rd.v9 ?_ | with_reducible refine Rd.v10 ?_ | with_reducible refine Rd.v11 ?_ | with_reducible refine Rd.v12 ?_ | with_reducible refine Rd.v13 ?_ | with_reducible refine Rd.v14 ?_ | with_reducible refine Rd.v15 ?_ | with_reducible refine Rd.n0 ?_ | with_reducible refine Rd.n1 ?_ | with_reducible refine Rd.n2 ?_ | with_reducible refine Rd.n3 ?_ | with_reducible refine Rd.n4 ?_ | with_reducible refine Rd.n5 ?_ | with_reducible refine Rd.n6 ?_ | with_reducible refine Rd.n7 ?_ | with_reducible refine Rd.n8 ?_ | with_reducible refine Rd.n9 ?_ | with_reducible refine Rd.n10 ?_ | with_reducible refine Rd.n11 ?_ | with_reducible refine Rd.n12 ?_ | with_reducible refine Rd.n13 ?_ | with_reducible refine Rd.n14 ?_ | with_reducible refine Rd.n15 ?_ | with_reducible refine Rd.g0 ?_ | with_reducible refine Rd.g1 ?_ | with_reducible refine Rd.g2 ?_ | with_reducible refine Rd.g3 ?_ | with_reducible refine Rd.g4 ?_ | with_reducible refine Rd.g5 ?_ | with_reducible refine Rd.g6 ?_ | with_reducible refine Rd.g7 ?_ | with_reducible refine Rd.g8 ?_ | with_reducible refine Rd.g9 ?_ | with_reducible refine Rd.g10 ?_ | with_reducible refine Rd.g11 ?_ | with_reducible refine Rd.g12 ?_ | with_reducible refine Rd.g13 ?_ | with_reducible refine Rd.g14 ?_ | with_reducible refine Rd.g15 ?_ | ((with_reducible apply Rd.fldI); (first | assumption | exact upd_same); assumption; assumption; (first | assumption | with_unfolding_all rfl)) | ((with_reducible apply Rd.methI); (first | assumption | exact upd_same); (first | assumption | with_unfolding_all rfl)) | ((with_reducible apply Rd.sfldI); (first | assumption | exact upd_same); assumption; assumption; exact Nat.le_of_ble_eq_true rfl) | ((with_reducible apply Rd.maxL); assumption) | ((with_reducible apply Rd.anyL); assumption) | ((with_reducible apply Rd.sumL); assumption) | ((with_reducible refine Rd.izI (by assumption) (by assumption) ?_)) | ((with_reducible refine Rd.eq ?_ ?_); exact rfl) | ((with_reducible refine Rd.ne ?_ ?_); exact rfl) | ((with_reducible refine Rd.szA ?_ ?_); exact Nat.le_of_ble_eq_true rfl) | ((with_reducible refine Rd.I ?_ ?_); first | assumption | decide | exact Or.inr (by decide +kernel) | exact Or.inl (by decide +kernel) | exact ⟨by decide, by decide⟩ | exact ⟨by decide, by decide, by decide⟩ | omega) | ((with_reducible apply Rd.tyL); first | assumption | exact upd_same) | ((with_reducible apply Rd.tyLq); assumption) | ((with_reducible apply Rd.ixL); (first | assumption | exact upd_same); exact rfl) | ((with_reducible apply Rd.ixT); (first | assumption | exact upd_same); exact rfl) | ((with_reducible apply Rd.ixLq); assumption; exact rfl) | ((with_reducible apply Rd.ixTq); assumption; exact rfl) | ((with_reducible apply Rd.gtup); (first | assumption | exact upd_same); exact rfl) | ((with_reducible apply Rd.gtupq); assumption; exact rfl) | ((with_reducible apply Rd.sqAq); assumption) | ((with_reducible apply Rd.stAq); assumption) | ((with_reducible apply Rd.enAq); assumption) | ((with_reducible apply Rd.lenLq); assumption) | ((with_reducible apply Rd.lenTq); assumption) | ((with_reducible apply Rd.sqA); first | assumption | exact upd_same) | ((with_reducible apply Rd.stA); first | assumption | exact upd_same) | ((with_reducible apply Rd.enA); first | assumption | exact upd_same) | ((with_reducible apply Rd.lenL); first | assumption | exact upd_same) | ((with_reducible apply Rd.lenT); first | assumption | exact upd_same) | ((with_reducible refine Rd.nwT ?_ ?_); exact Nat.le_of_ble_eq_true rfl) | ((with_reducible refine Rd.nwL ?_ ?_); exact Nat.le_of_ble_eq_true rfl) | ((with_reducible apply Rd.listOf); assumption) | ((with_reducible apply Rd.listOfq); assumption) | ((with_reducible apply Rd.slo); assumption) | ((with_reducible apply Rd.slq); assumption) | ((with_reducible apply Rd.srtI); assumption) | ((with_reducible apply Rd.srtIo); assumption) | ((with_reducible refine Rd.isi_li (by assumption) ?_)) | ((with_reducible refine Rd.isi_lb (by assumption) ?_)) | ((with_reducible refine Rd.isi_ls (by assumption) ?_)) | ((with_reducible refine Rd.isi_ll (by assumption) ?_)) | ((with_reducible refine Rd.isi_lt (by assumption) ?_)) | ((with_reducible refine Rd.isi_ld (by assumption) ?_)) | ((with_reducible refine Rd.isi_ti (by assumption) ?_)) | ((with_reducible refine Rd.isi_tb (by assumption) ?_)) | ((with_reducible refine Rd.isi_ts (by assumption) ?_)) | ((with_reducible refine Rd.isi_tl (by assumption) ?_)) | ((with_reducible refine Rd.isi_tt (by assumption) ?_)) | ((with_reducible refine Rd.isi_td (by assumption) ?_)))))
def topS (i : Nat) : Stmt := PySem.Challenge.pw_deadbeat_k53_levels_rise.main.body.getD i (.Pass ⟨0, 0, 0, 0⟩)
abbrev s__law_start : Stmt := topS 4
theorem sc__law_start : FnScope ["script", "seed", "cell"] ["script"] (defScope s__law_start) := ⟨rfl, rfl, rfl, by decide +kernel, rfl, by decide +kernel, by decide +kernel⟩
abbrev s__law_draw : Stmt := topS 5
theorem sc__law_draw : FnScope ["state", "many", "found"] ["state", "many"] (defScope s__law_draw) := ⟨rfl, rfl, rfl, by decide +kernel, rfl, by decide +kernel, by decide +kernel⟩
abbrev s_Stack_init : Stmt := inClass (topS 2) 0
theorem sc_Stack_init : FnScope ["self", "ceilings"] ["self", "ceilings"] (defScope s_Stack_init) := ⟨rfl, rfl, rfl, by decide +kernel, rfl, by decide +kernel, by decide +kernel⟩
abbrev s_Stack_top : Stmt := inClass (topS 2) 1
theorem sc_Stack_top : FnScope ["self"] ["self"] (defScope s_Stack_top) := ⟨rfl, rfl, rfl, by decide +kernel, rfl, by decide +kernel, by decide +kernel⟩
abbrev s_Stack_level_of : Stmt := inClass (topS 2) 4
theorem sc_Stack_level_of : FnScope ["self", "number", "objects", "item"] ["self", "number", "objects"] (defScope s_Stack_level_of) := ⟨rfl, rfl, rfl, by decide +kernel, rfl, by decide +kernel, by decide +kernel⟩
abbrev s_Stack_level : Stmt := inClass (topS 2) 2
theorem sc_Stack_level : FnScope ["self"] ["self"] (defScope s_Stack_level) := ⟨rfl, rfl, rfl, by decide +kernel, rfl, by decide +kernel, by decide +kernel⟩
abbrev s_Stack_levels : Stmt := inClass (topS 2) 3
theorem sc_Stack_levels : FnScope ["self", "number", "objects"] ["self"] (defScope s_Stack_levels) := ⟨rfl, rfl, rfl, by decide +kernel, rfl, by decide +kernel, by decide +kernel⟩
abbrev s_Stack_push : Stmt := inClass (topS 2) 5
theorem sc_Stack_push : FnScope ["self", "number"] ["self", "number"] (defScope s_Stack_push) := ⟨rfl, rfl, rfl, by decide +kernel, rfl, by decide +kernel, by decide +kernel⟩
abbrev s_Stack_drop : Stmt := inClass (topS 2) 6
theorem sc_Stack_drop : FnScope ["self"] ["self"] (defScope s_Stack_drop) := ⟨rfl, rfl, rfl, by decide +kernel, rfl, by decide +kernel, by decide +kernel⟩
abbrev s_Stack_can_enter : Stmt := inClass (topS 2) 8
theorem sc_Stack_can_enter : FnScope ["self", "item", "objects"] ["self", "item"] (defScope s_Stack_can_enter) := ⟨rfl, rfl, rfl, by decide +kernel, rfl, by decide +kernel, by decide +kernel⟩
abbrev s_Stack_can_leave : Stmt := inClass (topS 2) 9
theorem sc_Stack_can_leave : FnScope ["self", "item"] ["self", "item"] (defScope s_Stack_can_leave) := ⟨rfl, rfl, rfl, by decide +kernel, rfl, by decide +kernel, by decide +kernel⟩
abbrev s_Stack_enter_object : Stmt := inClass (topS 2) 10
theorem sc_Stack_enter_object : FnScope ["self", "item"] ["self", "item"] (defScope s_Stack_enter_object) := ⟨rfl, rfl, rfl, by decide +kernel, rfl, by decide +kernel, by decide +kernel⟩
abbrev s_Stack_leave_object : Stmt := inClass (topS 2) 11
theorem sc_Stack_leave_object : FnScope ["self", "item"] ["self", "item"] (defScope s_Stack_leave_object) := ⟨rfl, rfl, rfl, by decide +kernel, rfl, by decide +kernel, by decide +kernel⟩
abbrev s__law_rising : Stmt := topS 6
theorem sc__law_rising : FnScope ["levels", "k"] ["levels"] (defScope s__law_rising) := ⟨rfl, rfl, rfl, by decide +kernel, rfl, by decide +kernel, by decide +kernel⟩
abbrev s__law_users : Stmt := topS 7
theorem sc__law_users : FnScope ["state", "objects", "users", "number", "item"] ["state", "objects"] (defScope s__law_users) := ⟨rfl, rfl, rfl, by decide +kernel, rfl, by decide +kernel, by decide +kernel⟩
abbrev s__law_ceilings : Stmt := topS 8
theorem sc__law_ceilings : FnScope ["state", "users", "objects", "ceilings", "item", "number"] ["state", "users", "objects"] (defScope s__law_ceilings) := ⟨rfl, rfl, rfl, by decide +kernel, rfl, by decide +kernel, by decide +kernel⟩
abbrev s_law : Stmt := topS 9
theorem sc_law : FnScope ["script", "state", "objects", "users", "stack", "numbers", "held", "k", "turn", "free", "number", "wanted", "item", "levels"] ["script"] (defScope s_law) := ⟨rfl, rfl, rfl, by decide +kernel, rfl, by decide +kernel, by decide +kernel⟩
structure Top (K : PySem.W.Frag) (mg : Str → Option Value) where
  C_Stack : Addr
  gc_Stack : mg "Stack" = some (.ref C_Stack)
  cl_Stack : Cls K C_Stack
  n_Stack_ceilings : NoAttr K C_Stack "ceilings"
  n_Stack_entered : NoAttr K C_Stack "entered"
  n_Stack_numbers : NoAttr K C_Stack "numbers"
  a__law_start : Addr
  d__law_start : FuncData
  F__law_start : Fun K "_law_start" "_law_start" s__law_start a__law_start d__law_start
  g__law_start : mg "_law_start" = some (.ref a__law_start)
  b__law_start : Binds K d__law_start ["script"] []
  a__law_draw : Addr
  d__law_draw : FuncData
  F__law_draw : Fun K "_law_draw" "_law_draw" s__law_draw a__law_draw d__law_draw
  g__law_draw : mg "_law_draw" = some (.ref a__law_draw)
  b__law_draw : Binds K d__law_draw ["state", "many"] []
  a_Stack_init : Addr
  d_Stack_init : FuncData
  F_Stack_init : Fun K "__init__" "Stack.__init__" s_Stack_init a_Stack_init d_Stack_init
  M_Stack : Mk K C_Stack a_Stack_init
  b_Stack_init : Binds K d_Stack_init ["self", "ceilings"] []
  a_Stack_top : Addr
  d_Stack_top : FuncData
  F_Stack_top : Fun K "top" "Stack.top" s_Stack_top a_Stack_top d_Stack_top
  m_Stack_top : Meth K C_Stack "top" a_Stack_top
  b_Stack_top : Binds K d_Stack_top ["self"] []
  a_Stack_level_of : Addr
  d_Stack_level_of : FuncData
  F_Stack_level_of : Fun K "level_of" "Stack.level_of" s_Stack_level_of a_Stack_level_of d_Stack_level_of
  m_Stack_level_of : Meth K C_Stack "level_of" a_Stack_level_of
  b_Stack_level_of : Binds K d_Stack_level_of ["self", "number", "objects"] []
  a_Stack_level : Addr
  d_Stack_level : FuncData
  F_Stack_level : Fun K "level" "Stack.level" s_Stack_level a_Stack_level d_Stack_level
  m_Stack_level : Meth K C_Stack "level" a_Stack_level
  b_Stack_level : Binds K d_Stack_level ["self"] []
  a_Stack_levels : Addr
  d_Stack_levels : FuncData
  F_Stack_levels : Fun K "levels" "Stack.levels" s_Stack_levels a_Stack_levels d_Stack_levels
  m_Stack_levels : Meth K C_Stack "levels" a_Stack_levels
  b_Stack_levels : Binds K d_Stack_levels ["self"] []
  a_Stack_push : Addr
  d_Stack_push : FuncData
  F_Stack_push : Fun K "push" "Stack.push" s_Stack_push a_Stack_push d_Stack_push
  m_Stack_push : Meth K C_Stack "push" a_Stack_push
  b_Stack_push : Binds K d_Stack_push ["self", "number"] []
  a_Stack_drop : Addr
  d_Stack_drop : FuncData
  F_Stack_drop : Fun K "drop" "Stack.drop" s_Stack_drop a_Stack_drop d_Stack_drop
  m_Stack_drop : Meth K C_Stack "drop" a_Stack_drop
  b_Stack_drop : Binds K d_Stack_drop ["self"] []
  a_Stack_can_enter : Addr
  d_Stack_can_enter : FuncData
  F_Stack_can_enter : Fun K "can_enter" "Stack.can_enter" s_Stack_can_enter a_Stack_can_enter d_Stack_can_enter
  m_Stack_can_enter : Meth K C_Stack "can_enter" a_Stack_can_enter
  b_Stack_can_enter : Binds K d_Stack_can_enter ["self", "item"] []
  a_Stack_can_leave : Addr
  d_Stack_can_leave : FuncData
  F_Stack_can_leave : Fun K "can_leave" "Stack.can_leave" s_Stack_can_leave a_Stack_can_leave d_Stack_can_leave
  m_Stack_can_leave : Meth K C_Stack "can_leave" a_Stack_can_leave
  b_Stack_can_leave : Binds K d_Stack_can_leave ["self", "item"] []
  a_Stack_enter_object : Addr
  d_Stack_enter_object : FuncData
  F_Stack_enter_object : Fun K "enter_object" "Stack.enter_object" s_Stack_enter_object a_Stack_enter_object d_Stack_enter_object
  m_Stack_enter_object : Meth K C_Stack "enter_object" a_Stack_enter_object
  b_Stack_enter_object : Binds K d_Stack_enter_object ["self", "item"] []
  a_Stack_leave_object : Addr
  d_Stack_leave_object : FuncData
  F_Stack_leave_object : Fun K "leave_object" "Stack.leave_object" s_Stack_leave_object a_Stack_leave_object d_Stack_leave_object
  m_Stack_leave_object : Meth K C_Stack "leave_object" a_Stack_leave_object
  b_Stack_leave_object : Binds K d_Stack_leave_object ["self", "item"] []
  a__law_rising : Addr
  d__law_rising : FuncData
  F__law_rising : Fun K "_law_rising" "_law_rising" s__law_rising a__law_rising d__law_rising
  g__law_rising : mg "_law_rising" = some (.ref a__law_rising)
  b__law_rising : Binds K d__law_rising ["levels"] []
  a__law_users : Addr
  d__law_users : FuncData
  F__law_users : Fun K "_law_users" "_law_users" s__law_users a__law_users d__law_users
  g__law_users : mg "_law_users" = some (.ref a__law_users)
  b__law_users : Binds K d__law_users ["state", "objects"] []
  a__law_ceilings : Addr
  d__law_ceilings : FuncData
  F__law_ceilings : Fun K "_law_ceilings" "_law_ceilings" s__law_ceilings a__law_ceilings d__law_ceilings
  g__law_ceilings : mg "_law_ceilings" = some (.ref a__law_ceilings)
  b__law_ceilings : Binds K d__law_ceilings ["state", "users", "objects"] []
  a_law : Addr
  d_law : FuncData
  F_law : Fun K "law" "law" s_law a_law d_law
  g_law : mg "law" = some (.ref a_law)
  b_law : Binds K d_law ["script"] []
  m_list : mg "list" = none
  m_int : mg "int" = none
  m_len : mg "len" = none
  m_abs : mg "abs" = none
  m_max : mg "max" = none
  m_zip : mg "zip" = none
  m_any : mg "any" = none
  m_range : mg "range" = none
/-- the state of the law's draws: the list at p, the cells' copy at c -/
def StOk (H : Hp) (p c : Addr) : Prop := ∃ (ms : List Int) (k : Nat) (v sd : Int), p ≠ c ∧ H p = some (.lst [.ref c, .int k, .int v, .int sd]) ∧ H c = some (.lst (ms.map V.int)) ∧ ms.length ≤ 63 ∧ 0 ≤ v ∧ 0 ≤ sd ∧ sd ≤ 2147483647
/-- all but the object at p is as it was -/
def Keep (p : Addr) (H H' : Hp) : Prop := ∀ b o, b ≠ p → H b = some o → H' b = some o
theorem Keep.refl (p : Addr) (H : Hp) : Keep p H H := fun _ _ _ h => h
theorem Keep.trans {p : Addr} {H H1 H2 : Hp} (a : Keep p H H1) (b : Keep p H1 H2) : Keep p H H2 := fun x o h1 h => b x o h1 (a x o h1 h)
theorem Keep.same {p : Addr} {H H1 : Hp} (a : Same H H1) : Keep p H H1 := fun x o _ h => a x o h
theorem Keep.at {p : Addr} {H : Hp} {o : HO} : Keep p H (upd H p o) := fun x u h1 h => by
  rw [upd_ne h1]
  exact h
theorem StOk.same {H H' : Hp} {p c : Addr} (s : StOk H p c) (e : Same H H') : StOk H' p c := by
  obtain ⟨ms, k, v, sd, h1, h2, h3, h⟩ := s
  exact ⟨ms, k, v, sd, h1, e _ _ h2, e _ _ h3, h⟩
theorem StOk.ne {H : Hp} {p c l : Addr} (s : StOk H p c) (h : H l = Option.none) : l ≠ p ∧ l ≠ c := by
  obtain ⟨ms, k, v, sd, h1, h2, h3, _⟩ := s
  exact ⟨fun z => (by rw [z, h2] at h; cases h), fun z => (by rw [z, h3] at h; cases h)⟩
/-- an address that is free behind was free before -/
theorem Keep.free {p c : Addr} {H H' : Hp} (k : Keep p H H') (s : StOk H' p c) {l : Addr} (h : H' l = Option.none) : H l = Option.none := by
  cases e : H l with
  | none => rfl
  | some o =>
    rw [k l o (s.ne h).1 e] at h
    cases h
def absI (n : Int) : Int := if n < 0 then -n else n
theorem abs_nn (n : Int) : 0 ≤ absI n := by
  unfold absI
  split <;> omega
section
variable {P : Program} {w : World} {K : PySem.W.Frag} {mg : Str → Option Value} {base : Heap}
def sp__law_start (K : PySem.W.Frag) : Sp := fun vs H Q _ => ∃ (a : Addr) (ns : List Int), vs = [.ref a] ∧ SqL K H a (ns.map V.int) ∧ ns.length ≤ 63 ∧ ∀ (H' : Hp) (p c : Addr), Same H H' → H p = none → H c = none → StOk H' p c → Q (.ref p) H'
theorem ok__law_start (T : Top K mg) : FnOk P w K mg base CX0 1 T.a__law_start T.d__law_start ["script"]  (sp__law_start K) := by
  refine T.F__law_start.ok sc__law_start (fun vs H Q E h => ?_) (fun cdv A outer s H vs Q E hr h => ?_)
  · obtain ⟨_, _, rfl, _⟩ := h
    rfl
  · obtain ⟨a, ns, rfl, hS, hlen, q⟩ := h
    refine ⟨_, (pss_cons (ps_set (i := 1) sc__law_start.nd rfl (by first | exact Or.inl rfl | exact Or.inr rfl) pe_int)
  (pss_cons (ps_for PassesOwn.never rfl (pi_list (pv 0)) (pg_name (i := 2) sc__law_start.nd rfl (by first | exact Or.inl rfl | exact Or.inr rfl))
  (pss_one (ps_set (i := 1) sc__law_start.nd rfl (by first | exact Or.inl rfl | exact Or.inr rfl) (pe_op op_mod (pe_callTy call_int1 (by rfl) T.m_int (by decide +kernel) (pa_cons (pe_op op_add (pe_op op_mul (pv 1) pe_int) (pv 2)) pa_nil)) pe_int))))
  (pss_one (ps_ret (pe_lst (pa_cons (pe_callTy call_list_of (by rfl) T.m_list (by decide +kernel) (pa_cons (pv 0) pa_nil)) (pa_cons pe_int (pa_cons pe_int (pa_cons (pe_op op_add (pv 1) pe_int) pa_nil))))))))), ?_⟩
    refine ⟨_, rfl, a, rfl, ⟨_, hS⟩, for_list (xs := ns.map V.int) (fun i σ H' => ∃ sd y2, σ = [some (.ref a), some (.int sd), y2] ∧ H' = H ∧ 0 ≤ sd ∧ sd < 1000003) ⟨7, none, rfl, rfl, by decide, by decide⟩ (fun i σ H' _ ⟨_, _, _, e, _⟩ => by rw [e]; exact hS) ?_ ?_⟩
    · rintro i x σ H' hi ⟨sd, y2, rfl, rfl, h0, h1⟩
      obtain ⟨n, _, rfl⟩ := List.mem_map.mp (List.mem_of_getElem? hi)
      refine ⟨_, rfl, _, _, rfl, rfl, .inl ⟨by omega, by omega⟩, _, rfl, _, _, rfl, rfl, .inl ⟨_, rfl, _, _, rfl, rfl, (by show (0 : Int) < 1000003; decide), ?_⟩⟩
      exact ⟨_, _, rfl, rfl, Int.emod_nonneg _ (by decide), Int.emod_lt_of_pos _ (by decide)⟩
    · rintro σ H' ⟨sd, y2, rfl, rfl, h0, h1⟩
      refine ⟨_, rfl, a, _, rfl, .inl hS, fun c hc => ?_⟩
      refine ⟨_, rfl, _, _, rfl, rfl, (by show 4 ≤ sizeLine; decide), fun p hp => ?_⟩
      have npc : p ≠ c := fun z => by rw [z, upd_same] at hp; cases hp
      refine q _ p c ((same_new hc).trans (same_new hp)) ((same_new hc).free hp) hc ⟨ns, 0, 0, sd + 1, npc, upd_same, ?_, hlen, by decide, by omega, by omega⟩
      rw [upd_ne npc.symm, upd_same]
      all_goals rfl
theorem ix4 {n : Nat} {i : Int} {j : Nat} (e : i = (j : Int)) (h : j < n) : ixN n i = some j := by
  subst e
  unfold ixN
  rw [if_pos (by omega), if_pos (by omega)]
  rfl
def sp__law_draw : Sp := fun vs H Q _ => ∃ (p c : Addr) (many : Int), vs = [.ref p, .int many] ∧ StOk H p c ∧ 0 < many ∧ many ≤ 1099511627775 ∧ ∀ (v : Int) (H' : Hp), 0 ≤ v → v < many → StOk H' p c → Keep p H H' → Q (.int v) H'
theorem ok__law_draw (T : Top K mg) : FnOk P w K mg base CX0 1 T.a__law_draw T.d__law_draw ["state", "many"]  sp__law_draw := by
  refine T.F__law_draw.ok sc__law_draw (fun vs H Q E h => ?_) (fun cdv A outer s H vs Q E hr h => ?_)
  · obtain ⟨_, _, _, rfl, _⟩ := h
    rfl
  · obtain ⟨p, c, many, rfl, hst, hm0, hm1, q⟩ := h
    obtain ⟨ms, k, v, sd, npc, hp, hc, hl, v0, s0, s1⟩ := hst
    refine ⟨_, (pss_cons (ps_if (pt_cmpR op_eq (pe_ix ix_list (pv 0) pe_int (fun _ _ => rfl)) pe_int (nomark _))
  (pss_cons (ps_if (pt_cmpR op_lt (pe_ix ix_list (pv 0) pe_int (fun _ _ => rfl)) (pe_callB call_len_seq (by rfl) T.m_len PySem.boot_len (pa_cons (pe_ix ix_list (pv 0) pe_int (fun _ _ => rfl)) pa_nil)) (nomark _))
  (pss_one (ps_asg (pe_callB call_abs (by rfl) T.m_abs (by decide +kernel) (pa_cons (pe_ix ix_list (pe_ix ix_list (pv 0) pe_int (fun _ _ => rfl)) (pe_ix ix_list (pv 0) pe_int (fun _ _ => rfl)) (fun _ _ => rfl)) pa_nil)) (pg_sub (pv 0) pe_int set_list)))
  (pss_cons (ps_asg (pe_op op_mod (pe_callTy call_int1 (by rfl) T.m_int (by decide +kernel) (pa_cons (pe_op op_add (pe_op op_mul (pe_ix ix_list (pv 0) pe_int (fun _ _ => rfl)) pe_int) pe_int) pa_nil)) pe_int) (pg_sub (pv 0) pe_int set_list))
  (pss_one (ps_asg (pe_op op_fdivW (pe_callTy call_int1 (by rfl) T.m_int (by decide +kernel) (pa_cons (pe_ix ix_list (pv 0) pe_int (fun _ _ => rfl)) pa_nil)) pe_int) (pg_sub (pv 0) pe_int set_list)))))
  (pss_one (ps_asg (pe_op op_add (pe_ix ix_list (pv 0) pe_int (fun _ _ => rfl)) pe_int) (pg_sub (pv 0) pe_int set_list))))
  pss_nil)
  (pss_cons (ps_set (i := 2) sc__law_draw.nd rfl (by first | exact Or.inl rfl | exact Or.inr rfl) (pe_op op_mod (pe_callTy call_int1 (by rfl) T.m_int (by decide +kernel) (pa_cons (pe_ix ix_list (pv 0) pe_int (fun _ _ => rfl)) pa_nil)) (pv 1)))
  (pss_cons (ps_asg (pe_op op_fdivW (pe_callTy call_int1 (by rfl) T.m_int (by decide +kernel) (pa_cons (pe_ix ix_list (pv 0) pe_int (fun _ _ => rfl)) pa_nil)) (pv 1)) (pg_sub (pv 0) pe_int set_list))
  (pss_one (ps_ret (pv 2)))))), ?_⟩
    have fin : ∀ (k' : Nat) (v' sd' : Int) (H' : Hp), H' = upd H p (.lst [.ref c, .int k', .int v', .int sd']) → 0 ≤ v' → 0 ≤ sd' → sd' ≤ 2147483647 → Q (.int (v' % many)) (upd H' p (.lst [.ref c, .int k', .int (v' / many), .int sd'])) := fun k' v' sd' H' e hv h0 h1 => by
      subst e
      refine q _ _ (Int.emod_nonneg _ (by omega)) (Int.emod_lt_of_pos _ hm0) ⟨ms, k', v' / many, sd', npc, upd_same, ?_, hl, Int.ediv_nonneg hv (by omega), h0, h1⟩ ?_
      · rw [upd_ne npc.symm, upd_ne npc.symm]
        exact hc
      · exact Keep.at.trans Keep.at
    have hw : many.natAbs < 2 ^ 40 := by omega
    refine ⟨_, rfl, p, _, 2, .int v, rfl, rfl, SqL.of hp, atI_nat (j := 2) rfl, rfl, _, rfl, ite2 (fun cc => ?_) (fun cc => ?_)⟩
    · -- the next cell, or a mixed one
      have key : ∀ (v2 sd2 : Int) (H2 : Hp), H2 = upd H p (.lst [.ref c, .int k, .int v2, .int sd2]) → 0 ≤ v2 → 0 ≤ sd2 → sd2 ≤ 2147483647 → _ := fun v2 sd2 H2 e hv h0 h1 => fin (k + 1) v2 sd2 (upd H2 p (.lst [.ref c, .int ((k + 1 : Nat) : Int), .int v2, .int sd2])) (by rw [e, upd_upd]) hv h0 h1
      refine ⟨_, rfl, p, _, 1, .int k, rfl, rfl, SqL.of hp, atI_nat (j := 1) rfl, _, rfl, p, _, 0, .ref c, rfl, rfl, SqL.of hp, atI_nat (j := 0) rfl, c, _, rfl, .inl (SqL.of hc), _, _, rfl, rfl, _, rfl, ite2 (fun c2 => ?_) (fun c2 => ?_)⟩
      · have hk : k < ms.length := by
          have := of_decide_eq_true c2
          rw [List.length_map] at this
          omega
        obtain ⟨m, hm⟩ : ∃ m, ms[k]? = some m := ⟨_, List.getElem?_eq_getElem hk⟩
        refine ⟨_, rfl, p, _, 0, .ref c, rfl, rfl, SqL.of hp, atI_nat (j := 0) rfl, _, rfl, p, _, 1, .int k, rfl, rfl, SqL.of hp, atI_nat (j := 1) rfl, c, _, k, .int m, rfl, rfl, SqL.of hc, atI_nat (j := k) (by rw [List.getElem?_map, hm]; rfl), _, rfl, ?_⟩
        refine ⟨_, rfl, p, _, 2, 2, rfl, rfl, hp, rfl, ?_⟩
        refine ⟨_, rfl, p, _, 1, .int k, rfl, rfl, SqL.of upd_same, atI_nat (j := 1) rfl, _, _, rfl, rfl, _, rfl, p, _, 1, 1, rfl, rfl, upd_same, rfl, ?_⟩
        refine ⟨_, rfl, p, _, 2, .int (absI m), rfl, rfl, SqL.of upd_same, atI_nat (j := 2) rfl, .inl ⟨_, rfl, _, rfl, _, _, rfl, rfl, hm0, ?_⟩⟩
        refine ⟨_, rfl, p, _, 2, .int (absI m), rfl, rfl, SqL.of upd_same, atI_nat (j := 2) rfl, .inl ⟨_, rfl, _, rfl, _, _, rfl, rfl, wide_div hm0 hw (by decide) (by decide), _, rfl, p, _, 2, 2, rfl, rfl, upd_same, rfl, ?_⟩⟩
        exact ⟨_, rfl, key (absI m) sd _ rfl (abs_nn m) s0 s1⟩
      · have m0 := Int.emod_nonneg (sd * 48271 + 12345) (show (2147483647 : Int) ≠ 0 by decide)
        have m1 := Int.emod_lt_of_pos (sd * 48271 + 12345) (show (0 : Int) < 2147483647 by decide)
        refine ⟨_, rfl, p, _, 3, .int sd, rfl, rfl, SqL.of hp, atI_nat (j := 3) rfl, _, _, rfl, rfl, .inl ⟨by omega, by omega⟩, _, _, rfl, rfl, .inl ⟨_, rfl, _, _, rfl, rfl, (by show (0 : Int) < 2147483647; decide), ?_⟩⟩
        refine ⟨_, rfl, p, _, 3, 3, rfl, rfl, hp, rfl, ?_⟩
        refine ⟨_, rfl, p, _, 3, .int ((sd * 48271 + 12345) % 2147483647), rfl, rfl, SqL.of upd_same, atI_nat (j := 3) rfl, .inl ⟨_, rfl, _, _, rfl, rfl, wide_div (b := 10) (by decide) (by decide) (by decide) (by decide), _, rfl, p, _, 2, 2, rfl, rfl, upd_same, rfl, ?_⟩⟩
        refine ⟨_, rfl, p, _, 1, .int k, rfl, rfl, SqL.of upd_same, atI_nat (j := 1) rfl, _, _, rfl, rfl, _, rfl, p, _, 1, 1, rfl, rfl, upd_same, rfl, ?_⟩
        refine ⟨_, rfl, p, _, 2, .int ((sd * 48271 + 12345) % 2147483647 / 64), rfl, rfl, SqL.of upd_same, atI_nat (j := 2) rfl, .inl ⟨_, rfl, _, rfl, _, _, rfl, rfl, hm0, ?_⟩⟩
        refine ⟨_, rfl, p, _, 2, .int ((sd * 48271 + 12345) % 2147483647 / 64), rfl, rfl, SqL.of upd_same, atI_nat (j := 2) rfl, .inl ⟨_, rfl, _, rfl, _, _, rfl, rfl, wide_div hm0 hw (by decide) (by decide), _, rfl, p, _, 2, 2, rfl, rfl, upd_same, rfl, ?_⟩⟩
        exact ⟨_, rfl, key ((sd * 48271 + 12345) % 2147483647 / 64) ((sd * 48271 + 12345) % 2147483647) _ (by rw [upd_upd]; rfl) (Int.ediv_nonneg m0 (by decide)) m0 (by omega)⟩
    · refine ⟨_, rfl, p, _, 2, .int v, rfl, rfl, SqL.of hp, atI_nat (j := 2) rfl, .inl ⟨_, rfl, _, rfl, _, _, rfl, rfl, hm0, ?_⟩⟩
      refine ⟨_, rfl, p, _, 2, .int v, rfl, rfl, SqL.of hp, atI_nat (j := 2) rfl, .inl ⟨_, rfl, _, rfl, _, _, rfl, rfl, wide_div hm0 hw (by decide) (by decide), _, rfl, p, _, 2, 2, rfl, rfl, hp, rfl, ?_⟩⟩
      have := fin k v sd H (upd_self hp).symm v0 s0 s1
      exact ⟨_, rfl, this⟩
end

/-! ### what == and index compare: data under an object -/
def DOk (n : Nat) (d : PyData) : Prop := d.canLay0 = true ∧ d.depth ≤ n
theorem DOk.shaped {n : Nat} {d : PyData} (h : DOk n d) (hn : n ≤ 64) : SeqAt.shaped d = true := by
  unfold SeqAt.shaped
  rw [h.1, decide_eq_true (Nat.le_trans h.2 hn)]
  rfl
theorem DOk.mono {n m : Nat} {d : PyData} (h : DOk n d) (hn : n ≤ m) : DOk m d := ⟨h.1, Nat.le_trans h.2 hn⟩
theorem dok_int {n : Nat} {i : Int} : DOk n (.int i) := ⟨by simp only [PyData.canLay0], by simp only [PyData.depth]; exact Nat.zero_le _⟩
theorem dok_non {n : Nat} : DOk n .none := ⟨by simp only [PyData.canLay0], by simp only [PyData.depth]; exact Nat.zero_le _⟩
theorem dok_bl {n : Nat} {b : Bool} : DOk n (.bool b) := ⟨by simp only [PyData.canLay0], by simp only [PyData.depth]; exact Nat.zero_le _⟩
theorem dok_str {n : Nat} {x : Str} (h : PyData.strOk x = true) : DOk n (.str x) := ⟨by simp only [PyData.canLay0]; exact h, by simp only [PyData.depth]; exact Nat.zero_le _⟩
theorem dok_all {n : Nat} : ∀ {ds : List PyData}, (∀ d ∈ ds, DOk n d) → PyData.canLayAll0 ds = true ∧ PyData.depthAll ds ≤ n
  | [], _ => ⟨by simp only [PyData.canLayAll0], by simp only [PyData.depthAll]; exact Nat.zero_le _⟩
  | d :: r, h => by
    obtain ⟨a, b⟩ := dok_all (ds := r) fun x m => h x (List.mem_cons_of_mem _ m)
    obtain ⟨c, e⟩ := h d List.mem_cons_self
    exact ⟨by simp only [PyData.canLayAll0, c, a] <;> rfl, by simp only [PyData.depthAll]; omega⟩
theorem dok_list {n : Nat} {ds : List PyData} (h : ∀ d ∈ ds, DOk n d) : DOk (n + 1) (.list ds) := by
  obtain ⟨a, b⟩ := dok_all h
  exact ⟨by simp only [PyData.canLay0]; exact a, by simp only [PyData.depth]; omega⟩
theorem dok_tup {n : Nat} {ds : List PyData} (h : ∀ d ∈ ds, DOk n d) : DOk (n + 1) (.tuple ds) := by
  obtain ⟨a, b⟩ := dok_all h
  exact ⟨by simp only [PyData.canLay0]; exact a, by simp only [PyData.depth]; omega⟩
theorem dpAll_map {K : PySem.W.Frag} {H : Hp} (f : V → PyData) : ∀ {zs : List V}, (∀ v ∈ zs, Dp K H v (f v)) → DpAll K H zs (zs.map f)
  | [], _ => .nil
  | z :: r, h => .cons (h z List.mem_cons_self) (dpAll_map f fun v m => h v (List.mem_cons_of_mem _ m))
theorem dpAll_ints {K : PySem.W.Frag} {H : Hp} : ∀ {ns : List Int}, DpAll K H (ns.map V.int) (ns.map PyData.int)
  | [] => .nil
  | n :: r => .cons (.int n) dpAll_ints
theorem dp_ints {K : PySem.W.Frag} {H : Hp} {a : Addr} {ns : List Int} (h : SqL K H a (ns.map V.int)) : Dp K H (.ref a) (.list (ns.map PyData.int)) := .lst h dpAll_ints
theorem dp_intsT {K : PySem.W.Frag} {H : Hp} {a : Addr} {ns : List Int} (h : SqT K H a (ns.map V.int)) : Dp K H (.ref a) (.tuple (ns.map PyData.int)) := .tup h dpAll_ints
theorem ints_dok (n : Nat) (ns : List Int) : DOk (n + 1) (.list (ns.map PyData.int)) := dok_list fun d m => by
  obtain ⟨i, _, rfl⟩ := List.mem_map.mp m
  exact dok_int
theorem ints_shaped (ns : List Int) : SeqAt.shaped (.list (ns.map PyData.int)) = true := (ints_dok 0 ns).shaped (by decide)
theorem eqvAll_ints : ∀ ns ms : List Int, PyData.eqvAll (ns.map PyData.int) (ms.map PyData.int) = decide (ns = ms)
  | [], [] => by simp [PyData.eqvAll]
  | [], b :: s => by simp [PyData.eqvAll]
  | a :: r, [] => by simp [PyData.eqvAll]
  | a :: r, b :: s => by
    rw [List.map_cons, List.map_cons, PyData.eqvAll, eqvAll_ints r s, PyData.eqv]
    by_cases h : a = b <;> by_cases h2 : r = s <;> simp [h, h2]
theorem eqv_ints (ns ms : List Int) : PyData.eqv (.list (ns.map PyData.int)) (.list (ms.map PyData.int)) = decide (ns = ms) := by
  rw [PyData.eqv, eqvAll_ints]
theorem eqv_intsT (ns ms : List Int) : PyData.eqv (.tuple (ns.map PyData.int)) (.tuple (ms.map PyData.int)) = decide (ns = ms) := by
  rw [PyData.eqv, eqvAll_ints]

/-! ### deadbeat.stack -/
def mxl : Int → List Int → Int
  | a, [] => a
  | a, b :: r => mxl (if a < b then b else a) r
theorem mxl_ge (a : Int) (r : List Int) : a ≤ mxl a r ∧ ∀ y ∈ r, y ≤ mxl a r := by
  induction r generalizing a with
  | nil => exact ⟨Int.le_refl _, by simp⟩
  | cons b r ih =>
    obtain ⟨h1, h2⟩ := ih (if a < b then b else a)
    refine ⟨Int.le_trans (by split <;> omega) h1, fun y m => ?_⟩
    rcases List.mem_cons.mp m with rfl | m
    · exact Int.le_trans (by split <;> omega) h1
    · exact h2 y m
theorem mxl_mem (a : Int) (r : List Int) : mxl a r ∈ a :: r := by
  induction r generalizing a with
  | nil => exact List.mem_cons_self
  | cons b r ih =>
    have h := ih (if a < b then b else a)
    show mxl (if a < b then b else a) r ∈ _
    rcases List.mem_cons.mp h with h | h
    · rw [h]
      split
      · exact List.mem_cons_of_mem _ List.mem_cons_self
      · exact List.mem_cons_self
    · exact List.mem_cons_of_mem _ (List.mem_cons_of_mem _ h)
theorem mxl_eq {a m : Int} {r : List Int} (h1 : m ∈ a :: r) (h2 : ∀ y ∈ a :: r, y ≤ m) : m = mxl a r := by
  have e1 := h2 _ (mxl_mem a r)
  obtain ⟨e2, e3⟩ := mxl_ge a r
  rcases List.mem_cons.mp h1 with rfl | h
  · omega
  · have := e3 m h; omega
def lev (cs : List Int) (n : Int) (e : List Int) : Int := mxl n (e.map fun x => cs.getD x.toNat 0)
def sf (A N E : Addr) : List (Str × V) := [("ceilings", .ref A), ("numbers", .ref N), ("entered", .ref E)]
theorem sf_c {A N E : Addr} : (sf A N E).lookup ("ceilings" : Str) = some (.ref A) := by with_unfolding_all rfl
theorem sf_n {A N E : Addr} : (sf A N E).lookup ("numbers" : Str) = some (.ref N) := by with_unfolding_all rfl
theorem sf_e {A N E : Addr} : (sf A N E).lookup ("entered" : Str) = some (.ref E) := by with_unfolding_all rfl
theorem sf_m {A N E : Addr} {m : Str} (h : (m == ("ceilings" : Str)) = false) (h2 : (m == ("numbers" : Str)) = false) (h3 : (m == ("entered" : Str)) = false) : (sf A N E).lookup m = none := by
  unfold sf
  simp only [List.lookup, h, h2, h3]
structure StkAt (C : Addr) (H : Hp) (S : Addr → Prop) (o dx A N E : Addr) (ls : List Addr) (cs ns : List Int) (es : List (List Int)) (n : Nat) : Prop where
  ob : H o = some (.ins C dx (sf A N E))
  hA : H A = some (.lst (cs.map V.int))
  hN : H N = some (.lst (ns.map V.int))
  hE : H E = some (.lst (ls.map V.ref))
  len : ls.length = es.length
  lenN : ns.length = es.length
  row : ∀ (i : Nat) l e, ls[i]? = some l → es[i]? = some e → H l = some (.lst (e.map V.int))
  nd : ls.Nodup
  AN : A ≠ N
  AE : A ≠ E
  NE : N ≠ E
  nA : A ∉ ls
  nN : N ∉ ls
  nE : E ∉ ls
  so : S o
  sA : S A
  sN : S N
  sE : S E
  sl : ∀ l ∈ ls, S l
  ok : ∀ e ∈ es, ∀ x ∈ e, 0 ≤ x ∧ x < (cs.length : Int)
  bn : es.length ≤ n
  be : ∀ e ∈ es, e.length ≤ n
  bc : cs.length ≤ 1000
  live : ∀ b, S b → ∃ x, H b = some x
/-- all that is not of the stack is as it was -/
def Kp (S : Addr → Prop) (H H' : Hp) : Prop := ∀ b x, ¬ S b → H b = some x → H' b = some x
/-- what comes to be of the stack was free -/
def Gr (S S' : Addr → Prop) (H : Hp) : Prop := ∀ b, S' b → S b ∨ H b = none
def Stk (C : Addr) (H : Hp) (S : Addr → Prop) (o : Addr) (cs ns : List Int) (es : List (List Int)) (n : Nat) : Prop := ∃ dx A N E ls, StkAt C H S o dx A N E ls cs ns es n
theorem StkAt.on {C o dx A N E : Addr} {H : Hp} {S : Addr → Prop} {ls : List Addr} {cs ns : List Int} {es : List (List Int)} {n : Nat} (h : StkAt C H S o dx A N E ls cs ns es n) : o ≠ A ∧ o ≠ N ∧ o ≠ E ∧ o ∉ ls := by
  refine ⟨fun z => ?_, fun z => ?_, fun z => ?_, fun m => ?_⟩
  · have := h.ob; rw [z, h.hA] at this; cases this
  · have := h.ob; rw [z, h.hN] at this; cases this
  · have := h.ob; rw [z, h.hE] at this; cases this
  · obtain ⟨i, hi⟩ := List.mem_iff_getElem?.mp m
    have hlt := (List.getElem?_eq_some_iff.mp hi).1
    obtain ⟨e, he⟩ : ∃ e, es[i]? = some e := ⟨_, List.getElem?_eq_getElem (by rw [← h.len]; exact hlt)⟩
    have a := h.row i o e hi he
    have b := h.ob
    rw [a] at b; cases b
theorem StkAt.keep {C o dx A N E : Addr} {H H' : Hp} {S : Addr → Prop} {ls : List Addr} {cs ns : List Int} {es : List (List Int)} {n m : Nat} (h : StkAt C H S o dx A N E ls cs ns es n) (k : ∀ b x, S b → H b = some x → H' b = some x) (le : n ≤ m) : StkAt C H' S o dx A N E ls cs ns es m :=
  { h with ob := k _ _ h.so h.ob, hA := k _ _ h.sA h.hA, hN := k _ _ h.sN h.hN, hE := k _ _ h.sE h.hE, row := fun i l e a b => k _ _ (h.sl l (List.mem_of_getElem? a)) (h.row i l e a b), bn := Nat.le_trans h.bn le, be := fun e m => Nat.le_trans (h.be e m) le, live := fun b m => let ⟨x, e⟩ := h.live b m; ⟨x, k b x m e⟩ }
theorem Stk.keep {C o : Addr} {H H' : Hp} {S : Addr → Prop} {cs ns : List Int} {es : List (List Int)} {n m : Nat} (h : Stk C H S o cs ns es n) (k : ∀ b x, S b → H b = some x → H' b = some x) (le : n ≤ m) : Stk C H' S o cs ns es m := by
  obtain ⟨dx, A, N, E, ls, h⟩ := h
  exact ⟨dx, A, N, E, ls, h.keep k le⟩
theorem last_at {α : Type} (xs : List α) (x : α) : (xs ++ [x])[(xs ++ [x]).length - 1]? = some x := by simp
theorem mem_take {α : Type} {xs : List α} {i : Nat} {x : α} (h : xs[i]? = some x) : x ∈ xs := List.mem_of_getElem? h
theorem StkAt.lsne {C o dx A N E : Addr} {H : Hp} {S : Addr → Prop} {ls : List Addr} {cs ns : List Int} {es : List (List Int)} {n : Nat} (h : StkAt C H S o dx A N E ls cs ns es n) {l : Addr} (m : l ∈ ls) : ∃ x, H l = some x := by
  obtain ⟨i, hi⟩ := List.mem_iff_getElem?.mp m
  have hlt := (List.getElem?_eq_some_iff.mp hi).1
  obtain ⟨e, he⟩ : ∃ e, es[i]? = some e := ⟨_, List.getElem?_eq_getElem (by rw [← h.len]; exact hlt)⟩
  exact ⟨_, h.row i l e hi he⟩
theorem StkAt.push {C o dx A N E l : Addr} {H H3 : Hp} {S : Addr → Prop} {ls : List Addr} {cs ns : List Int} {es : List (List Int)} {n : Nat} {k : Int} (h : StkAt C H S o dx A N E ls cs ns es n) (hN : H3 N = some (.lst ((ns ++ [k]).map V.int)))
    (hE : H3 E = some (.lst ((ls ++ [l]).map V.ref))) (hl : H3 l = some (.lst [])) (kp : ∀ b x, b ≠ N → b ≠ E → H b = some x → H3 b = some x) (nl : H l = none) : StkAt C H3 (fun b => S b ∨ b = l) o dx A N E (ls ++ [l]) cs (ns ++ [k]) (es ++ [[]]) (n + 1) := by
  obtain ⟨o1, o2, o3, o4⟩ := h.on
  have nm : l ∉ ls := fun m => by obtain ⟨x, hx⟩ := h.lsne m; rw [nl] at hx; cases hx
  have lA : A ≠ l := fun z => by have := h.hA; rw [z, nl] at this; cases this
  have lN : N ≠ l := fun z => by have := h.hN; rw [z, nl] at this; cases this
  have lE : E ≠ l := fun z => by have := h.hE; rw [z, nl] at this; cases this
  exact {
    ob := kp _ _ o2 o3 h.ob, hA := kp _ _ h.AN h.AE h.hA, hN := hN, hE := hE
    len := by simp [h.len], lenN := by simp [h.lenN]
    row := fun i l' e a b => by
      by_cases hi : i < ls.length
      · rw [List.getElem?_append_left hi] at a
        rw [List.getElem?_append_left (by rw [← h.len]; exact hi)] at b
        have m := List.mem_of_getElem? a
        exact kp _ _ (fun z => h.nN (z ▸ m)) (fun z => h.nE (z ▸ m)) (h.row i l' e a b)
      · have e1 : i = ls.length := by
          have := (List.getElem?_eq_some_iff.mp a).1
          simp at this; omega
        subst e1
        rw [List.getElem?_append_right (Nat.le_refl _)] at a
        rw [List.getElem?_append_right (by rw [h.len]; exact Nat.le_refl _), h.len] at b
        simp at a b
        subst a; subst b
        exact hl
    nd := List.nodup_append.mpr ⟨h.nd, by simp, fun a m b m2 z => nm (by rw [List.mem_singleton] at m2; rw [← m2, ← z]; exact m)⟩
    AN := h.AN, AE := h.AE, NE := h.NE
    nA := by simp [h.nA, lA], nN := by simp [h.nN, lN], nE := by simp [h.nE, lE]
    so := .inl h.so, sA := .inl h.sA, sN := .inl h.sN, sE := .inl h.sE
    sl := fun b m => (List.mem_append.mp m).elim (fun m => .inl (h.sl b m)) (fun m => .inr (List.mem_singleton.mp m))
    ok := fun e m => (List.mem_append.mp m).elim (h.ok e) (fun m x mx => by rw [List.mem_singleton.mp m] at mx; simp at mx)
    bn := by have := h.bn; simp; omega
    be := fun e m => (List.mem_append.mp m).elim (fun m => Nat.le_succ_of_le (h.be e m)) (fun m => by rw [List.mem_singleton.mp m]; simp)
    bc := h.bc
    live := fun b m => by
      rcases m with m | rfl
      · by_cases b1 : b = N
        · exact ⟨_, b1 ▸ hN⟩
        by_cases b2 : b = E
        · exact ⟨_, b2 ▸ hE⟩
        obtain ⟨x, e⟩ := h.live b m
        exact ⟨x, kp b x b1 b2 e⟩
      · exact ⟨_, hl⟩ }
theorem StkAt.drop {C o dx A N E l : Addr} {H H3 : Hp} {S : Addr → Prop} {ls : List Addr} {cs ns : List Int} {es : List (List Int)} {e : List Int} {n : Nat} {k : Int} (h : StkAt C H S o dx A N E (ls ++ [l]) cs (ns ++ [k]) (es ++ [e]) n) (hN : H3 N = some (.lst (ns.map V.int)))
    (hE : H3 E = some (.lst (ls.map V.ref))) (kp : ∀ b x, b ≠ N → b ≠ E → H b = some x → H3 b = some x) : StkAt C H3 S o dx A N E ls cs ns es n := by
  obtain ⟨o1, o2, o3, o4⟩ := h.on
  have len := h.len
  have lenN := h.lenN
  simp at len lenN
  have sub : ∀ {b}, b ∈ ls → b ∈ ls ++ [l] := fun m => List.mem_append_left _ m
  exact {
    ob := kp _ _ o2 o3 h.ob, hA := kp _ _ h.AN h.AE h.hA, hN := hN, hE := hE
    len := len, lenN := lenN
    row := fun i l' e' a b => by
      have m := sub (List.mem_of_getElem? a)
      have hi := (List.getElem?_eq_some_iff.mp a).1
      exact kp _ _ (fun z => h.nN (z ▸ m)) (fun z => h.nE (z ▸ m)) (h.row i l' e' (by rw [List.getElem?_append_left hi]; exact a) (by rw [List.getElem?_append_left (by omega)]; exact b))
    nd := (List.nodup_append.mp h.nd).1
    AN := h.AN, AE := h.AE, NE := h.NE
    nA := fun m => h.nA (sub m), nN := fun m => h.nN (sub m), nE := fun m => h.nE (sub m)
    so := h.so, sA := h.sA, sN := h.sN, sE := h.sE
    sl := fun b m => h.sl b (sub m)
    ok := fun e m => h.ok e (List.mem_append_left _ m)
    bn := by have := h.bn; simp at this; omega
    be := fun e m => h.be e (List.mem_append_left _ m)
    bc := h.bc
    live := fun b m => by
      by_cases b1 : b = N
      · exact ⟨_, b1 ▸ hN⟩
      by_cases b2 : b = E
      · exact ⟨_, b2 ▸ hE⟩
      obtain ⟨x, e⟩ := h.live b m
      exact ⟨x, kp b x b1 b2 e⟩ }
theorem StkAt.put {C o dx A N E l : Addr} {H H3 : Hp} {S : Addr → Prop} {ls : List Addr} {cs ns : List Int} {es : List (List Int)} {e e' : List Int} {n : Nat} (h : StkAt C H S o dx A N E (ls ++ [l]) cs ns (es ++ [e]) n) (hl : H3 l = some (.lst (e'.map V.int)))
    (kp : ∀ b x, b ≠ l → H b = some x → H3 b = some x) (ok : ∀ x ∈ e', 0 ≤ x ∧ x < (cs.length : Int)) (be : e'.length ≤ n + 1) : StkAt C H3 S o dx A N E (ls ++ [l]) cs ns (es ++ [e']) (n + 1) := by
  obtain ⟨o1, o2, o3, o4⟩ := h.on
  have len := h.len
  have lenN := h.lenN
  simp at len lenN
  have ml : l ∈ ls ++ [l] := List.mem_append_right _ (List.mem_singleton.mpr rfl)
  exact {
    ob := kp _ _ (fun z => o4 (z ▸ ml)) h.ob, hA := kp _ _ (fun z => h.nA (z ▸ ml)) h.hA, hN := kp _ _ (fun z => h.nN (z ▸ ml)) h.hN, hE := kp _ _ (fun z => h.nE (z ▸ ml)) h.hE
    len := by simp [len], lenN := by simp [lenN]
    row := fun i l' e2 a b => by
      by_cases hi : i < ls.length
      · have a2 := a
        rw [List.getElem?_append_left hi] at a2
        rw [List.getElem?_append_left (by omega)] at b
        have m := List.mem_of_getElem? a2
        refine kp _ _ (fun z => ?_) (h.row i l' e2 a (by rw [List.getElem?_append_left (by omega)]; exact b))
        exact (List.nodup_append.mp h.nd).2.2 l' m l (List.mem_singleton.mpr rfl) z
      · have e1 : i = ls.length := by
          have := (List.getElem?_eq_some_iff.mp a).1
          simp at this; omega
        subst e1
        rw [List.getElem?_append_right (Nat.le_refl _)] at a
        rw [List.getElem?_append_right (by omega), len] at b
        simp at a b
        subst a; subst b
        exact hl
    nd := h.nd
    AN := h.AN, AE := h.AE, NE := h.NE
    nA := h.nA, nN := h.nN, nE := h.nE
    so := h.so, sA := h.sA, sN := h.sN, sE := h.sE
    sl := h.sl
    ok := fun e2 m => (List.mem_append.mp m).elim (fun m => h.ok e2 (List.mem_append_left _ m)) (fun m => by rw [List.mem_singleton.mp m]; exact ok)
    bn := by have := h.bn; simp at this; simp; omega
    be := fun e2 m => (List.mem_append.mp m).elim (fun m => Nat.le_succ_of_le (h.be e2 (List.mem_append_left _ m))) (fun m => by rw [List.mem_singleton.mp m]; exact be)
    bc := h.bc
    live := fun b m => by
      by_cases b1 : b = l
      · exact ⟨_, b1 ▸ hl⟩
      obtain ⟨x, e⟩ := h.live b m
      exact ⟨x, kp b x b1 e⟩ }
theorem cut_last1 (e : List Int) : cutV (e.map V.int) (some (-1)) none = (e.getLast?.toList).map V.int := by
  unfold cutV
  rw [HT.sIx_none]
  rcases List.eq_nil_or_concat e with rfl | ⟨e0, x, rfl⟩
  · rfl
  · rw [List.concat_eq_append, List.map_append]
    have h1 : HT.sIx (e0.map V.int ++ [x].map V.int).length 0 (some (-1)) = e0.length := by
      simp only [HT.sIx]
      rw [if_pos (by decide)]
      simp
      omega
    rw [h1, List.drop_left' (by simp)]
    simp
def canE (cs : List Int) (es : List (List Int)) (x : Int) : Bool := decide (0 ≤ x) && (decide (x < (cs.length : Int)) && !(es.any fun e => decide (x ∈ e)))
section
variable {P : Program} {w : World} {K : PySem.W.Frag} {mg : Str → Option Value} {base : Heap}
def sp_Stack_level_of (C : Addr) : Sp := fun vs H Q _ => ∃ (o dx A N E l : Addr) (k : Int) (cs e : List Int), vs = [.ref o, .int k, .ref l] ∧ H o = some (.ins C dx (sf A N E)) ∧ H A = some (.lst (cs.map V.int)) ∧ H l = some (.lst (e.map V.int)) ∧
  (∀ x ∈ e, 0 ≤ x ∧ x < (cs.length : Int)) ∧ e.length ≤ 1000 ∧ ∀ H', Same H H' → Q (.int (lev cs k e)) H'
theorem ok_Stack_level_of (T : Top K mg) : FnOk P w K mg base CX0 1 T.a_Stack_level_of T.d_Stack_level_of ["self", "number", "objects"]  (sp_Stack_level_of T.C_Stack) := by
  refine T.F_Stack_level_of.ok sc_Stack_level_of (fun vs H Q E h => ?_) (fun cdv A outer s H vs Q E hr h => ?_)
  · obtain ⟨_, _, _, _, _, _, _, _, _, rfl, _⟩ := h
    rfl
  · obtain ⟨o, dx, A', N', E', l, k, cs, e, rfl, ho, hA, hl, ok, le, q⟩ := h
    have c1 := T.cl_Stack
    have c2 := T.n_Stack_ceilings
    refine ⟨_, (pss_one (ps_ret (pe_callB (cr_max rfl) (by rfl) T.m_max (by decide +kernel) (pa_cons (pe_op op_cat (pe_lst (pa_cons (pv 1) pa_nil)) (pe_lc (own := [("item", 3)]) (g := gName 3) (tt := tYes) rfl sc_Stack_level_of.nd (pi_list (pv 2)) (blkOk_by (N := ["self", "number", "objects", "item"]) (sc := defScope s_Stack_level_of) (by decide +kernel)) (fun _ _ _ _ _ => pg_name (i := 3) sc_Stack_level_of.nd rfl (Or.inl rfl)) (fun _ _ _ _ _ => pts_nil) (fun _ _ _ _ _ => (pe_ix (r := rIxL K) ix_list (show PE _ _ (tFld K _ "ceilings") from pe_fld (pv 0) rfl) (pv 3) (fun _ _ => rfl))))) pa_nil)))), ?_⟩
    rw [show ∀ a0 a1 a2 : V, L2.start ["self", "number", "objects", "item"] [a0, a1, a2] = [some a0, some a1, some a2, none] from fun _ _ _ => rfl]
    walk_at "my rn"
    intro p1 H1 np1 s1 hp1
    have hl1 := s1 _ _ hl
    have ho1 := s1 _ _ ho
    have hA1 := s1 _ _ hA
    walk_at "my rn"
    intro D nD
    refine Rd.lc_rel (walk_list (xs := e.map V.int)) (fun i v _ => ∀ x, e[i]? = some x → v = .int (cs.getD x.toNat 0)) nD (by rw [List.length_map]; omega) (fun _ _ _ _ h _ => h) (fun H b => (b.to nD).seq (SqL.of hl1)) (fun i x H3 H4 Kt hi b hDl y kt => ?_) (fun H5 ms lm hm s5 hD5 => ?_)
    · obtain ⟨rfl, hx⟩ := y
      rw [List.getElem?_map] at hx
      obtain ⟨y, hei, rfl⟩ : ∃ y, e[i]? = some y ∧ V.int y = x := by
        cases z : e[i]? with
        | none => rw [z] at hx; cases hx
        | some y => rw [z] at hx; exact ⟨y, rfl, Option.some.inj hx⟩
      have hy := ok y (List.mem_of_getElem? hei)
      have ho3 := (b.to nD) _ _ ho1
      have hA3 := (b.to nD) _ _ hA1
      simp only [List.map_cons, List.map_nil, L2.wipe, List.set_cons_succ, List.set_cons_zero]
      walk_at "my rn"
      refine ⟨rfl, ?_⟩
      walk_at "my rn"
      have hc : cs[y.toNat]? = some (cs.getD y.toNat 0) := by
        rw [List.getD_eq_getElem?_getD, List.getElem?_eq_getElem (by omega)]
        rfl
      refine Rd.ixL hA3 (Rd.at_int (j := y.toNat) (show y = ((y.toNat : Nat) : Int) by omega) hc) ?_
      refine kt _ _ (fun x e2 => ?_) (Same.refl _)
      rw [hei] at e2
      cases e2
      rfl
    · rw [List.length_map] at lm
      have em : ms = (e.map fun x => cs.getD x.toNat 0).map V.int := by
        refine List.ext_getElem? fun i => ?_
        rw [List.map_map, List.getElem?_map]
        by_cases hi : i < e.length
        · obtain ⟨v, hv⟩ : ∃ v, ms[i]? = some v := ⟨_, List.getElem?_eq_getElem (by omega)⟩
          obtain ⟨x, hx⟩ : ∃ x, e[i]? = some x := ⟨_, List.getElem?_eq_getElem hi⟩
          rw [hv, hx, hm i v hv x hx]
          rfl
        · rw [List.getElem?_eq_none (by omega), List.getElem?_eq_none (by omega)]
          rfl
      subst em
      have hp5 := s5 _ _ hp1
      walk_at "my rn"
      refine Rd.cat hp5 hD5 (by simp; omega) fun S H6 nS s6 hS => ?_
      have hS2 : H6 S = some (.lst ((k :: e.map fun x => cs.getD x.toNat 0).map V.int)) := hS
      refine Rd.maxL hS2 (by simp) fun m m1 m2 => ?_
      rw [mxl_eq m1 m2]
      exact q _ (s1.trans (s5.trans s6))
def sp_Stack_top (C : Addr) : Sp := fun vs H Q _ => ∃ (o : Addr) (S : Addr → Prop) (cs ns : List Int) (es : List (List Int)) (n : Nat), vs = [.ref o] ∧ Stk C H S o cs ns es n ∧ Q (.int (ns.getLastD 0)) H
theorem ok_Stack_top (T : Top K mg) : FnOk P w K mg base CX0 1 T.a_Stack_top T.d_Stack_top ["self"]  (sp_Stack_top T.C_Stack) := by
  refine T.F_Stack_top.ok sc_Stack_top (fun vs H Q E h => ?_) (fun cdv A outer s H vs Q E hr h => ?_)
  · obtain ⟨_, _, _, _, _, _, rfl, _⟩ := h
    rfl
  · obtain ⟨o, S, cs, ns, es, n, rfl, ⟨dx, A', N', E', ls, h⟩, q⟩ := h
    have c1 := T.cl_Stack
    have c2 := T.n_Stack_numbers
    have f1 := sf_c (A := A') (N := N') (E := E')
    have f2 := sf_n (A := A') (N := N') (E := E')
    have f3 := sf_e (A := A') (N := N') (E := E')
    have h1 := h.ob
    have h2 := h.hN
    refine ⟨_, (pss_cons (ps_if (pt_cmpR op_eq (pe_callB call_len_seq (by rfl) T.m_len PySem.boot_len (pa_cons (pe_fld (pv 0) rfl) pa_nil)) pe_int (nomark _))
  (pss_one (ps_ret pe_int))
  pss_nil)
  (pss_one (ps_ret (pe_ix ix_list (pe_fld (pv 0) rfl) (pe_un un_neg pe_int) (fun _ _ => rfl))))), ?_⟩
    rw [show ∀ a0 : V, L2.start ["self"] [a0] = [some a0] from fun _ => rfl]
    walk_at "my rn"
    rcases List.eq_nil_or_concat ns with rfl | ⟨ns0, k, rfl⟩
    · walk_at "my rn"
      refine Rd.ifT ?_
      walk_at "my rn"
      exact q
    · rw [List.concat_eq_append] at *
      rw [decide_eq_false (by simp; intro z; omega)]
      refine Rd.ifF ?_
      walk_at "my rn"
      rw [List.map_append] at h2
      refine Rd.ixL h2 (atI_last _ _) ?_
      rw [List.getLastD_concat] at q
      exact q
/-- the level of the job on top -/
def topLev (cs ns : List Int) (es : List (List Int)) : Int := match ns.getLast?, es.getLast? with
  | some k, some e => lev cs k e
  | _, _ => 0
def sp_Stack_level (C : Addr) : Sp := fun vs H Q _ => ∃ (o : Addr) (S : Addr → Prop) (cs ns : List Int) (es : List (List Int)) (n : Nat), vs = [.ref o] ∧ Stk C H S o cs ns es n ∧ n ≤ 1000 ∧ ∀ H', Same H H' → Q (.int (topLev cs ns es)) H'
theorem ok_Stack_level (T : Top K mg) : FnOk P w K mg base CX0 2 T.a_Stack_level T.d_Stack_level ["self"]  (sp_Stack_level T.C_Stack) := by
  refine T.F_Stack_level.ok sc_Stack_level (fun vs H Q E h => ?_) (fun cdv A outer s H vs Q E hr h => ?_)
  · obtain ⟨_, _, _, _, _, _, rfl, _⟩ := h
    rfl
  · obtain ⟨o, S, cs, ns, es, n, rfl, ⟨dx, A', N', E', ls, h⟩, n1, q⟩ := h
    have c1 := T.cl_Stack
    have c2 := T.n_Stack_numbers
    have c3 := T.n_Stack_entered
    have c4 := T.n_Stack_ceilings
    have f1 := sf_c (A := A') (N := N') (E := E')
    have f2 := sf_n (A := A') (N := N') (E := E')
    have f3 := sf_e (A := A') (N := N') (E := E')
    have h1 := h.ob
    have h2 := h.hN
    have h3 := h.hE
    refine ⟨_, (pss_cons (ps_if (pt_cmpR op_eq (pe_callB call_len_seq (by rfl) T.m_len PySem.boot_len (pa_cons (pe_fld (pv 0) rfl) pa_nil)) pe_int (nomark _))
  (pss_one (ps_ret pe_int))
  pss_nil)
  (pss_one (ps_ret (pe_meth (pv 0) T.cl_Stack T.m_Stack_level_of (ok_Stack_level_of T) (hr.mono (by decide)) T.b_Stack_level_of .nil pass0 (pa_cons (pe_ix ix_list (pe_fld (pv 0) rfl) (pe_un un_neg pe_int) (fun _ _ => rfl)) (pa_cons (pe_ix ix_list (pe_fld (pv 0) rfl) (pe_un un_neg pe_int) (fun _ _ => rfl)) pa_nil)))))), ?_⟩
    rw [show ∀ a0 : V, L2.start ["self"] [a0] = [some a0] from fun _ => rfl]
    walk_at "my rn"
    rcases List.eq_nil_or_concat ns with rfl | ⟨ns0, k, rfl⟩
    · walk_at "my rn"
      refine Rd.ifT ?_
      walk_at "my rn"
      exact q _ (Same.refl _)
    · rw [List.concat_eq_append] at *
      have ln := h.lenN
      rcases List.eq_nil_or_concat es with rfl | ⟨es0, e, rfl⟩
      · simp at ln
      rw [List.concat_eq_append] at *
      have le := h.len
      rcases List.eq_nil_or_concat ls with rfl | ⟨ls0, l, rfl⟩
      · simp at le
      rw [List.concat_eq_append] at *
      rw [decide_eq_false (by simp; intro z; omega)]
      refine Rd.ifF ?_
      have h4 := h.row ls0.length l e (by simp) (by simp at le; rw [List.getElem?_append_right (by omega)]; simp [le])
      rw [List.map_append] at h2 h3
      walk_at "my rn"
      refine Rd.ixL h2 (atI_last _ _) ?_
      walk_at "my rn"
      refine Rd.ixL h3 (atI_last _ _) ?_
      walk_at "my rn"
      refine ⟨o, dx, A', N', E', l, k, cs, e, rfl, h1, h.hA, h4, h.ok e (by simp), Nat.le_trans (h.be e (by simp)) n1, fun H' s => ?_⟩
      unfold topLev at q
      simp only [List.getLast?_append, List.getLast?_singleton, Option.some_or] at q
      exact q _ s
def sp_Stack_levels (C : Addr) : Sp := fun vs H Q _ => ∃ (o : Addr) (S : Addr → Prop) (cs ns : List Int) (es : List (List Int)) (n : Nat), vs = [.ref o] ∧ Stk C H S o cs ns es n ∧ n ≤ 1000 ∧
  ∀ H' D, Same H H' → H D = none → H' D = some (.lst (((ns.zip es).map fun p => lev cs p.1 p.2).map V.int)) → Q (.ref D) H'
theorem ok_Stack_levels (T : Top K mg) : FnOk P w K mg base CX0 2 T.a_Stack_levels T.d_Stack_levels ["self"]  (sp_Stack_levels T.C_Stack) := by
  refine T.F_Stack_levels.ok sc_Stack_levels (fun vs H Q E h => ?_) (fun cdv A outer s H vs Q E hr h => ?_)
  · obtain ⟨_, _, _, _, _, _, rfl, _⟩ := h
    rfl
  · obtain ⟨o, S, cs, ns, es, n, rfl, ⟨dx, A', N', E', ls, h⟩, n1, q⟩ := h
    have c1 := T.cl_Stack
    have c2 := T.n_Stack_numbers
    have c3 := T.n_Stack_entered
    have c4 := T.n_Stack_ceilings
    have f1 := sf_c (A := A') (N := N') (E := E')
    have f2 := sf_n (A := A') (N := N') (E := E')
    have f3 := sf_e (A := A') (N := N') (E := E')
    have h1 := h.ob
    have h2 := h.hN
    have h3 := h.hE
    refine ⟨_, (pss_one (ps_ret (pe_lc (own := [("number", 1), ("objects", 2)]) (g := (gTup K 2 (gCons (gName 1) (gCons (gName 2) gNil)))) (tt := tYes) rfl sc_Stack_levels.nd (RZ.pi_zipA (by rfl) T.m_zip (pa_cons (pe_fld (pv 0) rfl) (pa_cons (pe_fld (pv 0) rfl) pa_nil))) (blkOk_by (N := ["self", "number", "objects"]) (sc := defScope s_Stack_levels) (by decide +kernel)) (fun _ _ _ _ _ => (pg_tup rfl (pgs_cons (pg_name (i := 1) sc_Stack_levels.nd rfl (Or.inl rfl)) (pgs_cons (pg_name (i := 2) sc_Stack_levels.nd rfl (Or.inl rfl)) pgs_nil)))) (fun _ _ _ _ _ => pts_nil) (fun _ _ _ _ _ => (pe_meth (pv 0) T.cl_Stack T.m_Stack_level_of (ok_Stack_level_of T) (hr.mono (by decide)) T.b_Stack_level_of .nil pass0 (pa_cons (pv 1) (pa_cons (pv 2) pa_nil))))))), ?_⟩
    rw [show ∀ a0 : V, L2.start ["self", "number", "objects"] [a0] = [some a0, none, none] from fun _ => rfl]
    walk_at "my rn"
    intro D nD
    have lenN := h.lenN
    have len := h.len
    refine Rd.lc_rel (walk_zip (n := es.length) (xs := ns.map V.int) (ys := ls.map V.ref) (by rw [List.length_map, List.length_map]; omega)) (fun i v _ => ∀ k e, ns[i]? = some k → es[i]? = some e → v = .int (lev cs k e)) nD (by have := h.bn; omega) (fun _ _ _ _ h _ => h) (fun H b => ⟨(b.to nD).seq (SqL.of h2), (b.to nD).seq (SqL.of h3)⟩) (fun i x H3 H4 Kt hi b hDl y kt => ?_) (fun H5 ms lm hm s5 hD5 => ?_)
    · obtain ⟨T', x, y, rfl, nT, rfl, hx, hy⟩ := y
      replace hx : (ns.map V.int)[i]? = some x := hx
      replace hy : (ls.map V.ref)[i]? = some y := hy
      rw [List.getElem?_map] at hx hy
      obtain ⟨k, hk⟩ : ∃ k, ns[i]? = some k := ⟨_, List.getElem?_eq_getElem (by omega)⟩
      obtain ⟨l, hl⟩ : ∃ l, ls[i]? = some l := ⟨_, List.getElem?_eq_getElem (by omega)⟩
      obtain ⟨e, he⟩ : ∃ e, es[i]? = some e := ⟨_, List.getElem?_eq_getElem (by omega)⟩
      rw [hk] at hx
      rw [hl] at hy
      cases hx
      cases hy
      have sm := (b.to nD).trans (same_new (o := .tup [.int k, .ref l]) nT)
      have ho4 := sm _ _ h1
      simp only [List.map_cons, List.map_nil, L2.wipe, List.set_cons_succ, List.set_cons_zero]
      refine Rd.gtup upd_same rfl ?_
      walk_at "my rn"
      refine ⟨rfl, ?_⟩
      walk_at "my rn"
      refine ⟨o, dx, A', N', E', l, k, cs, e, rfl, ho4, sm _ _ h.hA, sm _ _ (h.row i l e hl he), h.ok e (List.mem_of_getElem? he), Nat.le_trans (h.be e (List.mem_of_getElem? he)) n1, fun H5 s5 => ?_⟩
      refine kt _ _ (fun k2 e2 a b => ?_) ((same_new nT).trans s5)
      rw [hk] at a
      rw [he] at b
      cases a
      cases b
      rfl
    · have em : ms = ((ns.zip es).map fun p => lev cs p.1 p.2).map V.int := by
        refine List.ext_getElem? fun i => ?_
        rw [List.map_map, List.getElem?_map]
        by_cases hi : i < es.length
        · obtain ⟨v, hv⟩ : ∃ v, ms[i]? = some v := ⟨_, List.getElem?_eq_getElem (by omega)⟩
          obtain ⟨k, hk⟩ : ∃ k, ns[i]? = some k := ⟨_, List.getElem?_eq_getElem (by omega)⟩
          obtain ⟨e, he⟩ : ∃ e, es[i]? = some e := ⟨_, List.getElem?_eq_getElem hi⟩
          have hz : (ns.zip es)[i]? = some (k, e) := by rw [List.getElem?_zip_eq_some]; exact ⟨hk, he⟩
          rw [hv, hz, hm i v hv k e hk he]
          rfl
        · rw [List.getElem?_eq_none (by omega), List.getElem?_eq_none (by simp; omega)]
          rfl
      subst em
      exact q _ _ s5 nD hD5
def sp_Stack_push (C : Addr) : Sp := fun vs H Q _ => ∃ (o : Addr) (k : Int) (S : Addr → Prop) (cs ns : List Int) (es : List (List Int)) (n : Nat), vs = [.ref o, .int k] ∧ Stk C H S o cs ns es n ∧ n ≤ 1000 ∧
  ∀ H' S', Stk C H' S' o cs (ns ++ [k]) (es ++ [[]]) (n + 1) → Kp S H H' → Gr S S' H → Q .non H'
theorem ok_Stack_push (T : Top K mg) : FnOk P w K mg base CX0 1 T.a_Stack_push T.d_Stack_push ["self", "number"]  (sp_Stack_push T.C_Stack) := by
  refine T.F_Stack_push.ok sc_Stack_push (fun vs H Q E h => ?_) (fun cdv A outer s H vs Q E hr h => ?_)
  · obtain ⟨_, _, _, _, _, _, _, rfl, _⟩ := h
    rfl
  · obtain ⟨o, k, S, cs, ns, es, n, rfl, ⟨dx, A', N', E', ls, h⟩, n1, q⟩ := h
    have c1 := T.cl_Stack
    have c2 := T.n_Stack_numbers
    have c3 := T.n_Stack_entered
    have f2 := sf_n (A := A') (N := N') (E := E')
    have f3 := sf_e (A := A') (N := N') (E := E')
    have h1 := h.ob
    have h2 := h.hN
    have h3 := h.hE
    obtain ⟨o1, o2, o3, o4⟩ := h.on
    have bn := h.bn
    have lenN := h.lenN
    have len := h.len
    refine ⟨_, (pss_cons (ps_expr (pe_bm PySem.F.plainAttrs_list PySem.F.slot_list_append PySem.F.type_list_append mt_append (pe_fld (pv 0) rfl) (pa_cons (pv 1) pa_nil)))
  (pss_one (ps_expr (pe_bm PySem.F.plainAttrs_list PySem.F.slot_list_append PySem.F.type_list_append mt_append (pe_fld (pv 0) rfl) (pa_cons (pe_lst pa_nil) pa_nil))))), ?_⟩
    rw [show ∀ a0 a1 : V, L2.start ["self", "number"] [a0, a1] = [some a0, some a1] from fun _ _ => rfl]
    walk_at "my rn"
    refine Rd.app h2 (Rd.szl (by rw [List.length_map]; omega)) ?_
    obtain ⟨H1, e1⟩ : ∃ H1, H1 = upd H N' (.lst (ns.map V.int ++ [.int k])) := ⟨_, rfl⟩
    rw [← e1]
    have g1 : H1 o = some (.ins T.C_Stack dx (sf A' N' E')) := by rw [e1, upd_ne o2]; exact h1
    have g3 : H1 E' = some (.lst (ls.map V.ref)) := by rw [e1, upd_ne h.NE.symm]; exact h3
    have gN : H1 N' = some (.lst (ns.map V.int ++ [.int k])) := by rw [e1]; exact upd_same
    walk_at "my rn"
    intro l H2 nl s2 hl
    have g3b := s2 _ _ g3
    have nl0 : H l = none := by
      have lN : l ≠ N' := fun z => by rw [z, gN] at nl; cases nl
      rw [e1, upd_ne lN] at nl
      exact nl
    walk_at "my rn"
    refine Rd.app g3b (Rd.szl (by rw [List.length_map]; omega)) ?_
    have lE : l ≠ E' := fun z => by rw [z, h3] at nl0; cases nl0
    refine q _ (fun b => S b ∨ b = l) ⟨dx, A', N', E', ls ++ [l], h.push (l := l) (k := k) ?_ ?_ ?_ (fun b x n1 n2 hb => ?_) nl0⟩ (fun b x nb hb => ?_) (fun b m => ?_)
    · rw [upd_ne h.NE, s2 _ _ gN, List.map_append]
      rfl
    · rw [upd_same, List.map_append]
      rfl
    · rw [upd_ne lE]
      exact hl
    · rw [upd_ne n2]
      exact s2 _ _ (by rw [e1, upd_ne n1]; exact hb)
    · have b1 : b ≠ N' := fun z => nb (z ▸ h.sN)
      have b2 : b ≠ E' := fun z => nb (z ▸ h.sE)
      rw [upd_ne b2]
      exact s2 _ _ (by rw [e1, upd_ne b1]; exact hb)
    · rcases m with m | rfl
      · exact .inl m
      · exact .inr nl0
def sp_Stack_drop (C : Addr) : Sp := fun vs H Q _ => ∃ (o : Addr) (k : Int) (e : List Int) (S : Addr → Prop) (cs ns : List Int) (es : List (List Int)) (n : Nat), vs = [.ref o] ∧ Stk C H S o cs (ns ++ [k]) (es ++ [e]) n ∧
  ∀ H', Stk C H' S o cs ns es n → Kp S H H' → Q (.bl (decide (e = []))) H'
theorem ok_Stack_drop (T : Top K mg) : FnOk P w K mg base CX0 1 T.a_Stack_drop T.d_Stack_drop ["self"]  (sp_Stack_drop T.C_Stack) := by
  refine T.F_Stack_drop.ok sc_Stack_drop (fun vs H Q E h => ?_) (fun cdv A outer s H vs Q E hr h => ?_)
  · obtain ⟨_, _, _, _, _, _, _, _, rfl, _⟩ := h
    rfl
  · obtain ⟨o, k, e, S, cs, ns, es, n, rfl, ⟨dx, A', N', E', ls', h⟩, q⟩ := h
    have len := h.len
    rcases List.eq_nil_or_concat ls' with rfl | ⟨ls, l, rfl⟩
    · simp at len
    rw [List.concat_eq_append] at h len
    simp at len
    have c1 := T.cl_Stack
    have c2 := T.n_Stack_numbers
    have c3 := T.n_Stack_entered
    have f2 := sf_n (A := A') (N := N') (E := E')
    have f3 := sf_e (A := A') (N := N') (E := E')
    have h1 := h.ob
    have h2 := h.hN
    have h3 := h.hE
    obtain ⟨o1, o2, o3, o4⟩ := h.on
    have h4 := h.row ls.length l e (by simp) (by rw [List.getElem?_append_right (by omega)]; simp [len])
    refine ⟨_, (pss_cons (ps_expr (pe_bm0 PySem.F.plainAttrs_list PySem.F.slot_list_pop PySem.F.type_list_pop mt_pop (pe_fld (pv 0) rfl)))
  (pss_one (ps_ret (pe_cmpR op_eq (pe_callB call_len_seq (by rfl) T.m_len PySem.boot_len (pa_cons (pe_bm0 PySem.F.plainAttrs_list PySem.F.slot_list_pop PySem.F.type_list_pop mt_pop (pe_fld (pv 0) rfl)) pa_nil)) pe_int (nomark _))))), ?_⟩
    rw [show ∀ a0 : V, L2.start ["self"] [a0] = [some a0] from fun _ => rfl]
    rw [List.map_append, List.map_singleton] at h2 h3
    walk_at "my rn"
    refine Rd.popI h2 (last_at _ _) ?_
    rw [List.dropLast_concat]
    obtain ⟨H1, e1⟩ : ∃ H1, H1 = upd H N' (.lst (ns.map V.int)) := ⟨_, rfl⟩
    rw [← e1]
    have g1 : H1 o = some (.ins T.C_Stack dx (sf A' N' E')) := by rw [e1, upd_ne o2]; exact h1
    have g3 : H1 E' = some (.lst (ls.map V.ref ++ [.ref l])) := by rw [e1, upd_ne h.NE.symm]; exact h3
    have gN : H1 N' = some (.lst (ns.map V.int)) := by rw [e1]; exact upd_same
    walk_at "my rn"
    refine Rd.popI g3 (last_at _ _) ?_
    rw [List.dropLast_concat]
    have ml : l ∈ ls ++ [l] := List.mem_append_right _ (List.mem_singleton.mpr rfl)
    have lE : l ≠ E' := fun z => h.nE (z ▸ ml)
    have lN : l ≠ N' := fun z => h.nN (z ▸ ml)
    have g4 : (upd H1 E' (.lst (ls.map V.ref))) l = some (.lst (e.map V.int)) := by rw [upd_ne lE, e1, upd_ne lN]; exact h4
    walk_at "my rn"
    have ed : decide (V.int (((e.map V.int).length : Nat) : Int) = V.int 0) = decide (e = []) := by
      rw [List.length_map]
      refine decide_eq_decide.mpr ⟨fun z => ?_, fun z => by rw [z]; rfl⟩
      have := V.int.inj z
      exact List.length_eq_zero_iff.mp (by omega)
    rw [ed]
    refine q _ ⟨dx, A', N', E', ls, h.drop ?_ upd_same (fun b x n1 n2 hb => ?_)⟩ (fun b x nb hb => ?_)
    · rw [upd_ne h.NE]
      exact gN
    · rw [upd_ne n2, e1, upd_ne n1]
      exact hb
    · have b1 : b ≠ N' := fun z => nb (z ▸ h.sN)
      have b2 : b ≠ E' := fun z => nb (z ▸ h.sE)
      rw [upd_ne b2, e1, upd_ne b1]
      exact hb
def sp_Stack_can_enter (C : Addr) : Sp := fun vs H Q _ => ∃ (o : Addr) (x : Int) (S : Addr → Prop) (cs ns : List Int) (es : List (List Int)) (n : Nat), vs = [.ref o, .int x] ∧ Stk C H S o cs ns es n ∧ n ≤ 1000 ∧ ∀ H', Same H H' → Q (.bl (canE cs es x)) H'
theorem ok_Stack_can_enter (T : Top K mg) : FnOk P w K mg base CX0 1 T.a_Stack_can_enter T.d_Stack_can_enter ["self", "item"]  (sp_Stack_can_enter T.C_Stack) := by
  refine T.F_Stack_can_enter.ok sc_Stack_can_enter (fun vs H Q E h => ?_) (fun cdv A outer s H vs Q E hr h => ?_)
  · obtain ⟨_, _, _, _, _, _, _, rfl, _⟩ := h
    rfl
  · obtain ⟨o, x, S, cs, ns, es, n, rfl, ⟨dx, A', N', E', ls, h⟩, n1, q⟩ := h
    have c1 := T.cl_Stack
    have c2 := T.n_Stack_ceilings
    have c3 := T.n_Stack_entered
    have f1 := sf_c (A := A') (N := N') (E := E')
    have f3 := sf_e (A := A') (N := N') (E := E')
    have h1 := h.ob
    have h2 := h.hA
    have h3 := h.hE
    have len := h.len
    refine ⟨_, (pss_one (ps_ret (pe_and (pe_chain op_le op_lt pe_int (pv 1) (pe_callB call_len_seq (by rfl) T.m_len PySem.boot_len (pa_cons (pe_fld (pv 0) rfl) pa_nil))) (pe_one (pe_not (pe_callB (cr_any rfl) (by rfl) T.m_any (by decide +kernel) (pa_cons (pe_lc (own := [("objects", 2)]) (g := gName 2) (tt := tYes) rfl sc_Stack_can_enter.nd (pi_list (pe_fld (pv 0) rfl)) (blkOk_by (N := ["self", "item", "objects"]) (sc := defScope s_Stack_can_enter) (by decide +kernel)) (fun _ _ _ _ _ => pg_name (i := 2) sc_Stack_can_enter.nd rfl (Or.inl rfl)) (fun _ _ _ _ _ => pts_nil) (fun _ _ _ _ _ => (pe_cmpR (show OpR _ (compareOp .In) (rIn K false) from op_in_seq) (pv 1) (pv 2) (by with_unfolding_all rfl)))) pa_nil))))))), ?_⟩
    rw [show ∀ a0 a1 : V, L2.start ["self", "item", "objects"] [a0, a1] = [some a0, some a1, none] from fun _ _ => rfl]
    unfold canE at q
    walk_at "my rn"
    refine Rd.ifD (fun d1 => ?_) (fun d1 => ?_)
    · rw [decide_eq_true d1] at q
      walk_at "my rn"
      rw [List.length_map]
      refine Rd.ifD (fun d2 => ?_) (fun d2 => ?_)
      · rw [decide_eq_true d2] at q
        walk_at "my rn"
        intro D nD
        refine Rd.lc_rel (walk_list (xs := ls.map V.ref)) (fun i v _ => ∀ e, es[i]? = some e → v = .bl (decide (x ∈ e))) nD (by have := h.bn; rw [List.length_map]; omega) (fun _ _ _ _ h _ => h) (fun H b => (b.to nD).seq (SqL.of h3)) (fun i y H3 H4 Kt hi b hDl yy kt => ?_) (fun H5 ms lm hm s5 hD5 => ?_)
        · obtain ⟨rfl, hy⟩ := yy
          rw [List.length_map] at hi
          rw [List.getElem?_map] at hy
          obtain ⟨l, hl⟩ : ∃ l, ls[i]? = some l := ⟨_, List.getElem?_eq_getElem (by omega)⟩
          obtain ⟨e, he⟩ : ∃ e, es[i]? = some e := ⟨_, List.getElem?_eq_getElem (by omega)⟩
          rw [hl] at hy
          cases hy
          have g := (b.to nD) _ _ (h.row i l e hl he)
          simp only [List.map_cons, List.map_nil, L2.wipe, List.set_cons_succ, List.set_cons_zero]
          walk_at "my rn"
          refine ⟨rfl, ?_⟩
          walk_at "my rn"
          refine Rd.inI g ?_
          refine kt _ _ (fun e2 b => ?_) (Same.refl _)
          rw [he] at b
          cases b
          rfl
        · rw [List.length_map] at lm
          have em : ms = (es.map fun e => decide (x ∈ e)).map V.bl := by
            refine List.ext_getElem? fun i => ?_
            rw [List.map_map, List.getElem?_map]
            by_cases hi : i < es.length
            · obtain ⟨v, hv⟩ : ∃ v, ms[i]? = some v := ⟨_, List.getElem?_eq_getElem (by omega)⟩
              obtain ⟨e, he⟩ : ∃ e, es[i]? = some e := ⟨_, List.getElem?_eq_getElem hi⟩
              rw [hv, he, hm i v hv e he]
              rfl
            · rw [List.getElem?_eq_none (by omega), List.getElem?_eq_none (by omega)]
              rfl
          subst em
          walk_at "my rn"
          have ea : (es.map fun e => decide (x ∈ e)).any id = es.any fun e => decide (x ∈ e) := by rw [List.any_map]; rfl
          rw [ea]
          exact q _ s5
      · rw [decide_eq_false d2] at q
        walk_at "my rn"
        exact q _ (Same.refl _)
    · rw [decide_eq_false d1] at q
      walk_at "my rn"
      exact q _ (Same.refl _)
def sp_Stack_can_leave (C : Addr) : Sp := fun vs H Q _ => ∃ (o : Addr) (x : Int) (S : Addr → Prop) (cs ns : List Int) (es : List (List Int)) (e : List Int) (n : Nat), vs = [.ref o, .int x] ∧ Stk C H S o cs ns (es ++ [e]) n ∧ n ≤ 1000 ∧ ∀ H', Same H H' → Q (.bl (decide (e.getLast? = some x))) H'
theorem ok_Stack_can_leave (T : Top K mg) : FnOk P w K mg base CX0 1 T.a_Stack_can_leave T.d_Stack_can_leave ["self", "item"]  (sp_Stack_can_leave T.C_Stack) := by
  refine T.F_Stack_can_leave.ok sc_Stack_can_leave (fun vs H Q E h => ?_) (fun cdv A outer s H vs Q E hr h => ?_)
  · obtain ⟨_, _, _, _, _, _, _, _, rfl, _⟩ := h
    rfl
  · obtain ⟨o, x, S, cs, ns, es, e, n, rfl, ⟨dx, A', N', E', ls', h⟩, n1, q⟩ := h
    have len := h.len
    rcases List.eq_nil_or_concat ls' with rfl | ⟨ls, l, rfl⟩
    · simp at len
    rw [List.concat_eq_append] at h len
    simp at len
    have c1 := T.cl_Stack
    have c3 := T.n_Stack_entered
    have f3 := sf_e (A := A') (N := N') (E := E')
    have h1 := h.ob
    have h3 := h.hE
    have h4 := h.row ls.length l e (by simp) (by rw [List.getElem?_append_right (by omega)]; simp [len])
    have be := h.be e (by simp)
    refine ⟨_, (pss_one (ps_ret (pe_cmpR (op_eqD hr.units) (pe_slice sl_list (pe_ix ix_list (pe_fld (pv 0) rfl) (pe_un un_neg pe_int) (fun _ _ => rfl)) (po_some (pe_un un_neg pe_int)) po_none) (pe_lst (pa_cons (pv 1) pa_nil)) (nomark _)))), ?_⟩
    rw [show ∀ a0 a1 : V, L2.start ["self", "item"] [a0, a1] = [some a0, some a1] from fun _ _ => rfl]
    rw [List.map_append, List.map_singleton] at h3
    walk_at "my rn"
    refine Rd.ixL h3 (atI_last _ _) ?_
    walk_at "my rn"
    intro D H1 nD s1 hD
    rw [cut_last1] at hD
    walk_at "my rn"
    intro F H2 nF s2 hF
    have hD2 := s2 _ _ hD
    have hF2 : H2 F = some (.lst ([x].map V.int)) := hF
    refine Rd.eqD (dp_ints (SqL.of hD2)) (dp_ints (SqL.of hF2)) (ints_shaped _) (ints_shaped _) ?_
    rw [eqv_ints]
    have ed : decide (e.getLast?.toList = [x]) = decide (e.getLast? = some x) := by
      refine decide_eq_decide.mpr ⟨fun z => ?_, fun z => by rw [z]; rfl⟩
      cases g : e.getLast? with
      | none => rw [g] at z; cases z
      | some y => rw [g] at z; injection z with z1; rw [z1]
    rw [ed]
    exact q _ (s1.trans s2)
def sp_Stack_enter_object (C : Addr) : Sp := fun vs H Q _ => ∃ (o : Addr) (x : Int) (S : Addr → Prop) (cs ns : List Int) (es : List (List Int)) (e : List Int) (n : Nat), vs = [.ref o, .int x] ∧ Stk C H S o cs ns (es ++ [e]) n ∧ n ≤ 1000 ∧
  (canE cs (es ++ [e]) x = false → ∀ H', Same H H' → Q (.bl false) H') ∧ (canE cs (es ++ [e]) x = true → ∀ H', Stk C H' S o cs ns (es ++ [e ++ [x]]) (n + 1) → Kp S H H' → Q (.bl true) H')
theorem ok_Stack_enter_object (T : Top K mg) : FnOk P w K mg base CX0 2 T.a_Stack_enter_object T.d_Stack_enter_object ["self", "item"]  (sp_Stack_enter_object T.C_Stack) := by
  refine T.F_Stack_enter_object.ok sc_Stack_enter_object (fun vs H Q E h => ?_) (fun cdv A outer s H vs Q E hr h => ?_)
  · obtain ⟨_, _, _, _, _, _, _, _, rfl, _⟩ := h
    rfl
  · obtain ⟨o, x, S, cs, ns, es, e, n, rfl, hs, n1, q1, q2⟩ := h
    obtain ⟨dx, A', N', E', ls', h0⟩ := id hs
    have c1 := T.cl_Stack
    have c3 := T.n_Stack_entered
    have f3 := sf_e (A := A') (N := N') (E := E')
    have h00 := h0.ob
    refine ⟨_, (pss_cons (ps_if (pt_not (pt_val (pe_meth (pv 0) T.cl_Stack T.m_Stack_can_enter (ok_Stack_can_enter T) (hr.mono (by decide)) T.b_Stack_can_enter .nil pass0 (pa_cons (pv 1) pa_nil))))
  (pss_one (ps_ret pe_bl))
  pss_nil)
  (pss_cons (ps_expr (pe_bm PySem.F.plainAttrs_list PySem.F.slot_list_append PySem.F.type_list_append mt_append (pe_ix ix_list (pe_fld (pv 0) rfl) (pe_un un_neg pe_int) (fun _ _ => rfl)) (pa_cons (pv 1) pa_nil)))
  (pss_one (ps_ret pe_bl)))), ?_⟩
    rw [show ∀ a0 a1 : V, L2.start ["self", "item"] [a0, a1] = [some a0, some a1] from fun _ _ => rfl]
    have fm : (sf A' N' E').lookup ("can_enter" : Str) = none := by with_unfolding_all rfl
    walk_at "my rn"
    refine ⟨o, x, S, cs, ns, _, n, rfl, hs, n1, fun H1 s1 => ?_⟩
    walk_at "my rn"
    refine Rd.ifNB (fun cf => ?_) (fun ct => ?_)
    · walk_at "my rn"
      exact q1 cf _ s1
    · have h := h0.keep (m := n) (fun b x _ e => s1 b x e) (Nat.le_refl _)
      have len := h.len
      rcases List.eq_nil_or_concat ls' with rfl | ⟨ls, l, rfl⟩
      · simp at len
      rw [List.concat_eq_append] at h len
      simp at len
      have h1 := h.ob
      have h3 := h.hE
      have h4 := h.row ls.length l e (by simp) (by rw [List.getElem?_append_right (by omega)]; simp [len])
      have be := h.be e (by simp)
      rw [List.map_append, List.map_singleton] at h3
      walk_at "my rn"
      refine Rd.ixL h3 (atI_last _ _) ?_
      walk_at "my rn"
      refine Rd.app h4 (Rd.szl (by rw [List.length_map]; omega)) ?_
      walk_at "my rn"
      have okx : 0 ≤ x ∧ x < (cs.length : Int) := by
        unfold canE at ct
        simp only [Bool.and_eq_true, decide_eq_true_eq] at ct
        exact ⟨ct.1, ct.2.1⟩
      refine q2 ct _ ⟨dx, A', N', E', ls ++ [l], h.put (e' := e ++ [x]) ?_ (fun b y nb hb => by rw [upd_ne nb]; exact hb) (fun y m => ?_) (by simp; omega)⟩ (fun b y nb hb => ?_)
      · rw [upd_same, List.map_append]
        rfl
      · rcases List.mem_append.mp m with m | m
        · exact h.ok e (by simp) y m
        · rw [List.mem_singleton.mp m]; exact okx
      · have ml : l ∈ ls ++ [l] := List.mem_append_right _ (List.mem_singleton.mpr rfl)
        have bl : b ≠ l := fun z => nb (z ▸ h.sl l ml)
        rw [upd_ne bl]
        exact s1 _ _ hb
def sp_Stack_leave_object (C : Addr) : Sp := fun vs H Q _ => ∃ (o : Addr) (x : Int) (S : Addr → Prop) (cs ns : List Int) (es : List (List Int)) (e : List Int) (n : Nat), vs = [.ref o, .int x] ∧ Stk C H S o cs ns (es ++ [e]) n ∧ n ≤ 1000 ∧
  (e.getLast? ≠ some x → ∀ H', Same H H' → Q (.bl false) H') ∧ (e.getLast? = some x → ∀ H', Stk C H' S o cs ns (es ++ [e.dropLast]) (n + 1) → Kp S H H' → Q (.bl true) H')
theorem ok_Stack_leave_object (T : Top K mg) : FnOk P w K mg base CX0 2 T.a_Stack_leave_object T.d_Stack_leave_object ["self", "item"]  (sp_Stack_leave_object T.C_Stack) := by
  refine T.F_Stack_leave_object.ok sc_Stack_leave_object (fun vs H Q E h => ?_) (fun cdv A outer s H vs Q E hr h => ?_)
  · obtain ⟨_, _, _, _, _, _, _, _, rfl, _⟩ := h
    rfl
  · obtain ⟨o, x, S, cs, ns, es, e, n, rfl, hs, n1, q1, q2⟩ := h
    obtain ⟨dx, A', N', E', ls', h0⟩ := id hs
    have c1 := T.cl_Stack
    have c3 := T.n_Stack_entered
    have f3 := sf_e (A := A') (N := N') (E := E')
    have h00 := h0.ob
    refine ⟨_, (pss_cons (ps_if (pt_not (pt_val (pe_meth (pv 0) T.cl_Stack T.m_Stack_can_leave (ok_Stack_can_leave T) (hr.mono (by decide)) T.b_Stack_can_leave .nil pass0 (pa_cons (pv 1) pa_nil))))
  (pss_one (ps_ret pe_bl))
  pss_nil)
  (pss_cons (ps_expr (pe_bm0 PySem.F.plainAttrs_list PySem.F.slot_list_pop PySem.F.type_list_pop mt_pop (pe_ix ix_list (pe_fld (pv 0) rfl) (pe_un un_neg pe_int) (fun _ _ => rfl))))
  (pss_one (ps_ret pe_bl)))), ?_⟩
    rw [show ∀ a0 a1 : V, L2.start ["self", "item"] [a0, a1] = [some a0, some a1] from fun _ _ => rfl]
    have fm : (sf A' N' E').lookup ("can_leave" : Str) = none := by with_unfolding_all rfl
    walk_at "my rn"
    refine ⟨o, x, S, cs, ns, _, _, n, rfl, hs, n1, fun H1 s1 => ?_⟩
    walk_at "my rn"
    refine Rd.ifN (fun cf => ?_) (fun ct => ?_)
    · walk_at "my rn"
      exact q1 cf _ s1
    · have h := h0.keep (m := n) (fun b x _ e => s1 b x e) (Nat.le_refl _)
      have len := h.len
      rcases List.eq_nil_or_concat ls' with rfl | ⟨ls, l, rfl⟩
      · simp at len
      rw [List.concat_eq_append] at h len
      simp at len
      have h1 := h.ob
      have h3 := h.hE
      have h4 := h.row ls.length l e (by simp) (by rw [List.getElem?_append_right (by omega)]; simp [len])
      have be := h.be e (by simp)
      rw [List.map_append, List.map_singleton] at h3
      rcases List.eq_nil_or_concat e with rfl | ⟨e0, y', rfl⟩
      · simp at ct
      rw [List.concat_eq_append] at *
      rw [List.map_append, List.map_singleton] at h4
      walk_at "my rn"
      refine Rd.ixL h3 (atI_last _ _) ?_
      walk_at "my rn"
      refine Rd.popI h4 (last_at _ _) ?_
      rw [List.dropLast_concat]
      walk_at "my rn"
      refine q2 ct _ ⟨dx, A', N', E', ls ++ [l], h.put ?_ (fun b y nb hb => by rw [upd_ne nb]; exact hb) (fun y m => ?_) ?_⟩ (fun b y nb hb => ?_)
      · rw [upd_same, List.dropLast_concat]
      · rw [List.dropLast_concat] at m
        exact h.ok (e0 ++ [y']) (by simp) y (List.mem_append_left _ m)
      · rw [List.dropLast_concat]
        simp at be
        omega
      · have ml : l ∈ ls ++ [l] := List.mem_append_right _ (List.mem_singleton.mpr rfl)
        have bl : b ≠ l := fun z => nb (z ▸ h.sl l ml)
        rw [upd_ne bl]
        exact s1 _ _ hb
theorem sf_put {A N E : Addr} : putF "entered" (.ref E) (putF "numbers" (.ref N) (putF "ceilings" (.ref A) [])) = sf A N E := by with_unfolding_all rfl
def sp_Stack_init (C : Addr) : Sp := fun vs H Q _ => ∃ (o dx G : Addr) (cs : List Int), vs = [.ref o, .ref G] ∧ H o = some (.ins C dx []) ∧ H G = some (.lst (cs.map V.int)) ∧ cs.length ≤ 1000 ∧
  ∀ H' S, Stk C H' S o cs [] [] 0 → (∀ b x, b ≠ o → H b = some x → H' b = some x) → (∀ b, S b → b = o ∨ H b = none) → Q .non H'
theorem ok_Stack_init (T : Top K mg) : FnOk P w K mg base CX0 1 T.a_Stack_init T.d_Stack_init ["self", "ceilings"]  (sp_Stack_init T.C_Stack) := by
  refine T.F_Stack_init.ok sc_Stack_init (fun vs H Q E h => ?_) (fun cdv A outer s H vs Q E hr h => ?_)
  · obtain ⟨_, _, _, _, rfl, _⟩ := h
    rfl
  · obtain ⟨o, dx, G, cs, rfl, ho, hG, hc, q⟩ := h
    have c1 := T.cl_Stack
    have c2 := T.n_Stack_ceilings
    have c3 := T.n_Stack_numbers
    have c4 := T.n_Stack_entered
    refine ⟨_, (pss_cons (ps_fld (pv 0) (pe_callTy call_list_of (by rfl) T.m_list (by decide +kernel) (pa_cons (pv 1) pa_nil)) rfl)
  (pss_cons (ps_fld (pv 0) (pe_lst pa_nil) rfl)
  (pss_one (ps_fld (pv 0) (pe_lst pa_nil) rfl)))), ?_⟩
    rw [show ∀ a0 a1 : V, L2.start ["self", "ceilings"] [a0, a1] = [some a0, some a1] from fun _ _ => rfl]
    walk_at "my rn"
    intro A' H1 nA s1 hA
    have o1 := s1 _ _ ho
    have oA : o ≠ A' := fun z => by rw [z, nA] at ho; cases ho
    walk_at "my rn"
    obtain ⟨H2, e2⟩ : ∃ H2, H2 = upd H1 o (.ins T.C_Stack dx (putF "ceilings" (.ref A') [])) := ⟨_, rfl⟩
    rw [← e2]
    have o2 : H2 o = some (.ins T.C_Stack dx (putF "ceilings" (.ref A') [])) := by rw [e2]; exact upd_same
    have k12 : ∀ b x, b ≠ o → H1 b = some x → H2 b = some x := fun b x n e => by rw [e2, upd_ne n]; exact e
    walk_at "my rn"
    intro N' H3 nN s3 hN
    have o3 := s3 _ _ o2
    have oN : o ≠ N' := fun z => by rw [z, nN] at o2; cases o2
    walk_at "my rn"
    obtain ⟨H4, e4⟩ : ∃ H4, H4 = upd H3 o (.ins T.C_Stack dx (putF "numbers" (.ref N') (putF "ceilings" (.ref A') []))) := ⟨_, rfl⟩
    rw [← e4]
    have o4 : H4 o = some (.ins T.C_Stack dx (putF "numbers" (.ref N') (putF "ceilings" (.ref A') []))) := by rw [e4]; exact upd_same
    have k34 : ∀ b x, b ≠ o → H3 b = some x → H4 b = some x := fun b x n e => by rw [e4, upd_ne n]; exact e
    walk_at "my rn"
    intro E' H5 nE s5 hE
    have o5 := s5 _ _ o4
    have oE : o ≠ E' := fun z => by rw [z, nE] at o4; cases o4
    walk_at "my rn"
    rw [sf_put]
    have hA2 := k12 _ _ oA.symm hA
    have hA4 := k34 _ _ oA.symm (s3 _ _ hA2)
    have hN4 := k34 _ _ oN.symm hN
    have AN : A' ≠ N' := fun z => by rw [z, nN] at hA2; cases hA2
    have AE : A' ≠ E' := fun z => by rw [z, nE] at hA4; cases hA4
    have NE : N' ≠ E' := fun z => by rw [z, nE] at hN4; cases hN4
    have k06 : ∀ b x, b ≠ o → H b = some x → (upd H5 o (.ins T.C_Stack dx (sf A' N' E'))) b = some x := fun b x n e => by
      rw [upd_ne n]
      exact s5 _ _ (k34 _ _ n (s3 _ _ (k12 _ _ n (s1 _ _ e))))
    refine q _ (fun b => b = o ∨ b = A' ∨ b = N' ∨ b = E') ⟨dx, A', N', E', [], ⟨upd_same, ?_, ?_, ?_, rfl, rfl, by simp, by simp, AN, AE, NE, by simp, by simp, by simp, .inl rfl, .inr (.inl rfl), .inr (.inr (.inl rfl)), .inr (.inr (.inr rfl)), by simp, by simp, by simp, by simp, hc, fun b m => ?_⟩⟩ k06 (fun b m => ?_)
    · rw [upd_ne oA.symm]
      exact s5 _ _ hA4
    · rw [upd_ne oN.symm]
      exact s5 _ _ hN4
    · rw [upd_ne oE.symm]
      exact hE
    · rcases m with rfl | rfl | rfl | rfl
      · exact ⟨_, upd_same⟩
      · exact ⟨_, by rw [upd_ne oA.symm]; exact s5 _ _ hA4⟩
      · exact ⟨_, by rw [upd_ne oN.symm]; exact s5 _ _ hN4⟩
      · exact ⟨_, by rw [upd_ne oE.symm]; exact hE⟩
    · have fr : ∀ b, b ≠ o → (upd H5 o (.ins T.C_Stack dx (sf A' N' E'))) b = none → H b = none := fun b n e => by
        cases z : H b with
        | none => rfl
        | some x => rw [k06 b x n z] at e; cases e
      rcases m with m | rfl | rfl | rfl
      · exact .inl m
      · exact .inr nA
      · refine .inr ?_
        cases z : H b with
        | none => rfl
        | some x => rw [k12 b x oN.symm (s1 _ _ z)] at nN; cases nN
      · refine .inr ?_
        cases z : H b with
        | none => rfl
        | some x => rw [k34 b x oE.symm (s3 _ _ (k12 b x oE.symm (s1 _ _ z)))] at nE; cases nE
end

end Mine

set_option Elab.async false
set_option linter.all false
set_option maxRecDepth 100000
set_option maxHeartbeats 1000000


namespace Mine
open PySem PySem.Spec PyProof.Rows L2
local macro_rules | `(tactic| walk_at "my rn") => `(tactic| (repeat (first | with_reducible refine Rd.fld ?_ | with_reducible refine Rd.sfld ?_ | with_reducible refine Rd.meth ?_ | with_reducible refine Rd.make ?_ | with_reducible refine Rd.izip ?_ | with_reducible refine Rd.tupN ?_ | with_reducible refine Rd.lstN ?_ | with_reducible refine Rd.cbListOf ?_ | with_reducible refine Rd.cbListOfR ?_ | with_reducible refine Rd.catI ?_ | with_reducible refine Rd.slN ?_ | with_reducible refine Rd.cbSrtI ?_ | with_reducible refine Rd.seq ?_ | with_reducible refine Rd.next ?_ | with_reducible refine Rd.brk ?_ | with_reducible refine Rd.cont ?_ | with_reducible refine Rd.asg ?_ | with_reducible refine Rd.ret ?_ | with_reducible refine Rd.retN ?_ | with_reducible refine Rd.drop ?_ | with_reducible refine Rd.ifs ?_ | with_reducible refine Rd.ife ?_ | with_reducible refine Rd.test ?_ | with_reducible refine Rd.tb_ ?_ | with_reducible refine Rd.bl ?_ | with_reducible refine Rd.bl2 ?_ | with_reducible refine Rd.and_ ?_ | with_reducible refine Rd.or_ ?_ | with_reducible refine Rd.not_ ?_ | with_reducible refine Rd.andV ?_ | with_reducible refine Rd.orV ?_ | with_reducible refine Rd.notV ?_ | with_reducible refine Rd.op ?_ | with_reducible refine Rd.un ?_ | with_reducible refine Rd.I0 ?_ | with_reducible refine Rd.U ?_ | with_reducible refine Rd.ip ?_ | with_reducible refine Rd.c_ ?_ | with_reducible refine Rd.nil ?_ | with_reducible refine Rd.cons ?_ | with_reducible refine Rd.call ?_ | with_reducible refine Rd.cb ?_ | with_reducible refine Rd.bm ?_ | with_reducible refine Rd.bm0 ?_ | with_reducible refine Rd.nopart ?_ | with_reducible refine Rd.part ?_ | with_reducible refine Rd.int1 ?_ | with_reducible refine Rd.ints1 ?_ | with_reducible refine Rd.ints2 ?_ | with_reducible refine Rd.gcons ?_ | with_reducible refine Rd.gnil ?_ | with_reducible refine Rd.sub ?_ | with_reducible refine Rd.isN ?_ | with_reducible refine Rd.chain ?_ | with_reducible refine Rd.rf ?_ | with_reducible refine Rd.tyS ?_ | with_reducible refine Rd.intI ?_ | with_reducible refine Rd.lc ?_ | with_reducible refine Rd.for_ ?_ | with_reducible refine Rd.ilist ?_ | with_reducible refine Rd.itup ?_ | with_reducible refine Rd.irng1 ?_ | with_reducible refine Rd.irng2 ?_ | with_reducible refine Rd.ienum ?_ | with_reducible refine Rd.istr ?_ | with_reducible refine Rd.refA ?_ | with_reducible refine Rd.strA ?_ | with_reducible refine Rd.yes ?_ | with_reducible refine Rd.ifT ?_ | with_reducible refine Rd.ifF ?_ | with_reducible refine Rd.ifnT ?_ | with_reducible refine Rd.ifnF ?_ | with_reducible refine Rd.isi_ii ?_ | with_reducible refine Rd.isi_ib ?_ | with_reducible refine Rd.isi_is ?_ | with_reducible refine Rd.isi_il ?_ | with_reducible refine Rd.isi_it ?_ | with_reducible refine Rd.isi_id ?_ | with_reducible refine Rd.isi_bi ?_ | with_reducible refine Rd.isi_bb ?_ | with_reducible refine Rd.isi_bs ?_ | with_reducible refine Rd.isi_bl ?_ | with_reducible refine Rd.isi_bt ?_ | with_reducible refine Rd.isi_bd ?_ | with_reducible refine Rd.isi_si ?_ | with_reducible refine Rd.isi_sb ?_ | with_reducible refine Rd.isi_ss ?_ | with_reducible refine Rd.isi_sl ?_ | with_reducible refine Rd.isi_st ?_ | with_reducible refine Rd.isi_sd ?_ | with_reducible refine Rd.isi_ni ?_ | with_reducible refine Rd.isi_nb ?_ | with_reducible refine Rd.isi_ns ?_ | with_reducible refine Rd.isi_nl ?_ | with_reducible refine Rd.isi_nt ?_ | with_reducible refine Rd.isi_nd ?_ | with_reducible refine Rd.sl ?_ | with_reducible refine Rd.v0 ?_ | with_reducible refine Rd.v1 ?_ | with_reducible refine Rd.v2 ?_ | with_reducible refine Rd.v3 ?_ | with_reducible refine Rd.v4 ?_ | with_reducible refine Rd.v5 ?_ | with_reducible refine Rd.v6 ?_ | with_reducible refine Rd.v7 ?_ | with_reducible refine Rd.v8 ?_ | with_reducible refine Rd.v9 ?_ | with_reducible refine Rd.v10 ?_ | with_reducible refine Rd.v11 ?_ | with_reducible refine Rd.v12 ?_ | with_reducible refine Rd.v13 ?_ | with_reducible refine Rd.v14 ?_ | with_reducible refine Rd.v15 ?_ | with_reducible refine Rd.n0 ?_ | with_reducible refine Rd.n1 ?_ | with_reducible refine Rd.n2 ?_ | with_reducible refine Rd.n3 ?_ | with_reducible refine Rd.n4 ?_ | with_reducible refine Rd.n5 ?_ | with_reducible refine Rd.n6 ?_ | with_reducible refine Rd.n7 ?_ | with_reducible refine Rd.n8 ?_ | with_reducible refine Rd.n9 ?_ | with_reducible refine Rd.n10 ?_ | with_reducible refine Rd.n11 ?_ | with_reducible refine Rd.n12 ?_ | with_reducible refine Rd.n13 ?_ | with_reducible refine Rd.n14 ?_ | with_reducible refine Rd.n15 ?_ | with_reducible refine Rd.g0 ?_ | with_reducible refine Rd.g1 ?_ | with_reducible refine Rd.g2 ?_ | with_reducible refine Rd.g3 ?_ | with_reducible refine Rd.g4 ?_ | with_reducible refine Rd.g5 ?_ | with_reducible refine Rd.g6 ?_ | with_reducible refine Rd.g7 ?_ | with_reducible refine Rd.g8 ?_ | with_reducible refine Rd.g9 ?_ | with_reducible refine Rd.g10 ?_ | with_reducible refine Rd.g11 ?_ | with_reducible refine Rd.g12 ?_ | with_reducible refine Rd.g13 ?_ | with_reducible refine Rd.g14 ?_ | with_reducible refine Rd.g15 ?_ | ((with_reducible apply Rd.fldI); (first | assumption | exact upd_same); assumption; assumption; (first | assumption | with_unfolding_all rfl)) | ((with_reducible apply Rd.methI); (first | assumption | exact upd_same); (first | assumption | with_unfolding_all rfl)) | ((with_reducible apply Rd.sfldI); (first | assumption | exact upd_same); assumption; assumption; exact Nat.le_of_ble_eq_true rfl) | ((with_reducible apply Rd.maxL); assumption) | ((with_reducible apply Rd.anyL); assumption) | ((with_reducible apply Rd.sumL); assumption) | ((with_reducible refine Rd.izI (by assumption) (by assumption) ?_)) | ((with_reducible refine Rd.eq ?_ ?_); exact rfl) | ((with_reducible refine Rd.ne ?_ ?_); exact rfl) | ((with_reducible refine Rd.szA ?_ ?_); exact Nat.le_of_ble_eq_true rfl) | ((with_reducible refine Rd.I ?_ ?_); first | assumption | decide | exact Or.inr (by decide +kernel) | exact Or.inl (by decide +kernel) | exact ⟨by decide, by decide⟩ | exact ⟨by decide, by decide, by decide⟩ | omega) | ((with_reducible apply Rd.tyL); first | assumption | exact upd_same) | ((with_reducible apply Rd.tyLq); assumption) | ((with_reducible apply Rd.ixL); (first | assumption | exact upd_same); exact rfl) | ((with_reducible apply Rd.ixT); (first | assumption | exact upd_same); exact rfl) | ((with_reducible apply Rd.ixLq); assumption; exact rfl) | ((with_reducible apply Rd.ixTq); assumption; exact rfl) | ((with_reducible apply Rd.gtup); (first | assumption | exact upd_same); exact rfl) | ((with_reducible apply Rd.gtupq); assumption; exact rfl) | ((with_reducible apply Rd.sqAq); assumption) | ((with_reducible apply Rd.stAq); assumption) | ((with_reducible apply Rd.enAq); assumption) | ((with_reducible apply Rd.lenLq); assumption) | ((with_reducible apply Rd.lenTq); assumption) | ((with_reducible apply Rd.sqA); first | assumption | exact upd_same) | ((with_reducible apply Rd.stA); first | assumption | exact upd_same) | ((with_reducible apply Rd.enA); first | assumption | exact upd_same) | ((with_reducible apply Rd.lenL); first | assumption | exact upd_same) | ((with_reducible apply Rd.lenT); first | assumption | exact upd_same) | ((with_reducible refine Rd.nwT ?_ ?_); exact Nat.le_of_ble_eq_true rfl) | ((with_reducible refine Rd.nwL ?_ ?_); exact Nat.le_of_ble_eq_true rfl) | ((with_reducible apply Rd.listOf); assumption) | ((with_reducible apply Rd.listOfq); assumption) | ((with_reducible apply Rd.slo); assumption) | ((with_reducible apply Rd.slq); assumption) | ((with_reducible apply Rd.srtI); assumption) | ((with_reducible apply Rd.srtIo); assumption) | ((with_reducible refine Rd.isi_li (by assumption) ?_)) | ((with_reducible refine Rd.isi_lb (by assumption) ?_)) | ((with_reducible refine Rd.isi_ls (by assumption) ?_)) | ((with_reducible refine Rd.isi_ll (by assumption) ?_)) | ((with_reducible refine Rd.isi_lt (by assumption) ?_)) | ((with_reducible refine Rd.isi_ld (by assumption) ?_)) | ((with_reducible refine Rd.isi_ti (by assumption) ?_)) | ((with_reducible refine Rd.isi_tb (by assumption) ?_)) | ((with_reducible refine Rd.isi_ts (by assumption) ?_)) | ((with_reducible refine Rd.isi_tl (by assumption) ?_)) | ((with_reducible refine Rd.isi_tt (by assumption) ?_)) | ((with_reducible refine Rd.isi_td (by assumption) ?_)))))
/-- a comprehension over a range whose elements are drawn ints -/
theorem lc_draw {n : Nat} {g : TG} {te : TE} {vs : List Nat} {σ : L2.St} {H1 : Hp} {D p c : Addr} {Qd : Hp → Prop} (G : Int → Prop) (st : StOk H1 p c) (nD : H1 D = none) (hn : n ≤ 90000)
    (hs : ∀ (i : Nat) H (Kt : VK), i < n → StOk H p c → (∀ v H4, G v → StOk H4 p c → Keep p H H4 → Kt (.int v) H4) → g (.int (i : Int)) (wipe σ vs) H fun σ2 H2 => wipe σ2 vs = wipe σ vs ∧ te σ2 H2 Kt)
    (hd : ∀ H (ns : List Int), ns.length = n → (∀ v ∈ ns, G v) → StOk H p c → Keep p H1 H → H D = some (.lst (ns.map V.int)) → Qd H) :
    ∃ W : Nat → Nat → Hp → Prop, (∃ m, W 0 m (upd H1 D (.lst []))) ∧ ∀ i m H, W i m H →
      ((Itr 0 n).stop i H ∧ Qd H) ∨ ((Itr 0 n).go i H ∧ ∃ Nx : Hp → Prop, (∀ H', Nx H' → ∃ m', m' < m ∧ W (i + 1) m' H') ∧ ∀ x H', (Itr 0 n).yld i H x H' → g x (wipe σ vs) H' fun σ2 H2 => wipe σ2 vs = wipe σ vs ∧ tYes σ2 H2 fun b H3 =>
        if b = true then te σ2 H3 fun y H4 => ∃ acc, H4 D = some (.lst acc) ∧ acc.length < sizeLine ∧ Nx (upd H4 D (.lst (acc ++ [y]))) else Nx H3) := by
  have pD := st.ne nD
  have stk : ∀ {H H' : Hp} {o : HO}, StOk H' p c → StOk (upd H' D o) p c := fun s => by
    obtain ⟨ms, k, v, sd, a, b, d, r⟩ := s
    exact ⟨ms, k, v, sd, a, by rw [upd_ne pD.1.symm]; exact b, by rw [upd_ne pD.2.symm]; exact d, r⟩
  refine lc_it walk_range (fun i H => ∃ ns : List Int, ns.length = i ∧ (∀ v ∈ ns, G v) ∧ StOk H p c ∧ Keep p H1 H ∧ H D = some (.lst (ns.map V.int))) ⟨[], rfl, by simp, stk (H := H1) st, Keep.same (same_new nD), upd_same⟩ (fun _ _ _ _ => trivial) (fun i x H H' hi h y => ?_) (fun H ⟨ns, a, b, d, e, f⟩ => hd H ns a b d e f)
  obtain ⟨ns, ln, gn, s1, k1, hD⟩ := h
  obtain ⟨rfl, e⟩ := Rd.zr y
  subst e
  refine hs i _ _ hi s1 fun v H4 gv s4 k4 => ?_
  have hD4 := k4 _ _ pD.1 hD
  refine ⟨_, hD4, Rd.szl (by rw [List.length_map]; omega), ns ++ [v], by simp [ln], fun u m => ?_, stk (H := H4) s4, fun b o n1 h => ?_, by rw [upd_same, List.map_append]; rfl⟩
  · rcases List.mem_append.mp m with m | m
    · exact gn u m
    · rw [List.mem_singleton.mp m]; exact gv
  · have nb : b ≠ D := fun z => by rw [z, nD] at h; cases h
    rw [upd_ne nb]
    exact k4 b o n1 (k1 b o n1 h)

/-! ### the law's lists -/
structure LLAt (H : Hp) (U : Addr → Prop) (N E : Addr) (ls : List Addr) (ns : List Int) (es : List (List Int)) : Prop where
  hN : H N = some (.lst (ns.map V.int))
  hE : H E = some (.lst (ls.map V.ref))
  len : ls.length = es.length
  lenN : ns.length = es.length
  row : ∀ (i : Nat) l e, ls[i]? = some l → es[i]? = some e → H l = some (.lst (e.map V.int))
  nd : ls.Nodup
  NE : N ≠ E
  nN : N ∉ ls
  nE : E ∉ ls
  uN : U N
  uE : U E
  ul : ∀ l ∈ ls, U l
  live : ∀ b, U b → ∃ x, H b = some x
section
variable {H H3 : Hp} {U : Addr → Prop} {N E l : Addr} {ls : List Addr} {ns : List Int} {es : List (List Int)} {e e' : List Int} {k : Int}
theorem LLAt.keep (h : LLAt H U N E ls ns es) (k : ∀ b x, U b → H b = some x → H3 b = some x) : LLAt H3 U N E ls ns es :=
  { h with hN := k _ _ h.uN h.hN, hE := k _ _ h.uE h.hE, row := fun i l e a b => k _ _ (h.ul l (List.mem_of_getElem? a)) (h.row i l e a b), live := fun b m => let ⟨x, e⟩ := h.live b m; ⟨x, k b x m e⟩ }
theorem LLAt.push (h : LLAt H U N E ls ns es) (hN : H3 N = some (.lst ((ns ++ [k]).map V.int))) (hE : H3 E = some (.lst ((ls ++ [l]).map V.ref))) (hl : H3 l = some (.lst [])) (kp : ∀ b x, b ≠ N → b ≠ E → H b = some x → H3 b = some x) (nl : H l = none) :
    LLAt H3 (fun b => U b ∨ b = l) N E (ls ++ [l]) (ns ++ [k]) (es ++ [[]]) := by
  have len := h.len
  have lenN := h.lenN
  have inl : ∀ {b}, U b → b ≠ l := fun m z => by obtain ⟨x, e⟩ := h.live _ m; rw [z, nl] at e; cases e
  have nm : l ∉ ls := fun m => inl (h.ul l m) rfl
  exact {
    hN := hN, hE := hE, len := by simp [len], lenN := by simp [lenN]
    row := fun i l' e a b => by
      by_cases hi : i < ls.length
      · rw [List.getElem?_append_left hi] at a
        rw [List.getElem?_append_left (by omega)] at b
        have m := List.mem_of_getElem? a
        exact kp _ _ (fun z => h.nN (z ▸ m)) (fun z => h.nE (z ▸ m)) (h.row i l' e a b)
      · have e1 : i = ls.length := by
          have := (List.getElem?_eq_some_iff.mp a).1
          simp at this; omega
        subst e1
        rw [List.getElem?_append_right (Nat.le_refl _)] at a
        rw [List.getElem?_append_right (by omega), len] at b
        simp at a b
        subst a; subst b
        exact hl
    nd := List.nodup_append.mpr ⟨h.nd, by simp, fun a m b m2 z => nm (by rw [List.mem_singleton] at m2; rw [← m2, ← z]; exact m)⟩
    NE := h.NE
    nN := by simp [h.nN, inl h.uN], nE := by simp [h.nE, inl h.uE]
    uN := .inl h.uN, uE := .inl h.uE
    ul := fun b m => (List.mem_append.mp m).elim (fun m => .inl (h.ul b m)) (fun m => .inr (List.mem_singleton.mp m))
    live := fun b m => by
      rcases m with m | rfl
      · by_cases b1 : b = N
        · exact ⟨_, b1 ▸ hN⟩
        by_cases b2 : b = E
        · exact ⟨_, b2 ▸ hE⟩
        obtain ⟨x, e⟩ := h.live b m
        exact ⟨x, kp b x b1 b2 e⟩
      · exact ⟨_, hl⟩ }
theorem LLAt.drop (h : LLAt H U N E (ls ++ [l]) (ns ++ [k]) (es ++ [e])) (hN : H3 N = some (.lst (ns.map V.int))) (hE : H3 E = some (.lst (ls.map V.ref))) (kp : ∀ b x, b ≠ N → b ≠ E → H b = some x → H3 b = some x) : LLAt H3 U N E ls ns es := by
  have len := h.len
  have lenN := h.lenN
  simp at len lenN
  have sub : ∀ {b}, b ∈ ls → b ∈ ls ++ [l] := fun m => List.mem_append_left _ m
  exact {
    hN := hN, hE := hE, len := len, lenN := lenN
    row := fun i l' e' a b => by
      have m := sub (List.mem_of_getElem? a)
      have hi := (List.getElem?_eq_some_iff.mp a).1
      exact kp _ _ (fun z => h.nN (z ▸ m)) (fun z => h.nE (z ▸ m)) (h.row i l' e' (by rw [List.getElem?_append_left hi]; exact a) (by rw [List.getElem?_append_left (by omega)]; exact b))
    nd := (List.nodup_append.mp h.nd).1
    NE := h.NE
    nN := fun m => h.nN (sub m), nE := fun m => h.nE (sub m)
    uN := h.uN, uE := h.uE
    ul := fun b m => h.ul b (sub m)
    live := fun b m => by
      by_cases b1 : b = N
      · exact ⟨_, b1 ▸ hN⟩
      by_cases b2 : b = E
      · exact ⟨_, b2 ▸ hE⟩
      obtain ⟨x, e⟩ := h.live b m
      exact ⟨x, kp b x b1 b2 e⟩ }
theorem LLAt.put (h : LLAt H U N E (ls ++ [l]) ns (es ++ [e])) (hl : H3 l = some (.lst (e'.map V.int))) (kp : ∀ b x, b ≠ l → H b = some x → H3 b = some x) : LLAt H3 U N E (ls ++ [l]) ns (es ++ [e']) := by
  have len := h.len
  have lenN := h.lenN
  simp at len lenN
  have ml : l ∈ ls ++ [l] := List.mem_append_right _ (List.mem_singleton.mpr rfl)
  exact {
    hN := kp _ _ (fun z => h.nN (z ▸ ml)) h.hN, hE := kp _ _ (fun z => h.nE (z ▸ ml)) h.hE
    len := by simp [len], lenN := by simp [lenN]
    row := fun i l' e2 a b => by
      by_cases hi : i < ls.length
      · have a2 := a
        rw [List.getElem?_append_left hi] at a2
        rw [List.getElem?_append_left (by omega)] at b
        have m := List.mem_of_getElem? a2
        refine kp _ _ (fun z => ?_) (h.row i l' e2 a (by rw [List.getElem?_append_left (by omega)]; exact b))
        exact (List.nodup_append.mp h.nd).2.2 l' m l (List.mem_singleton.mpr rfl) z
      · have e1 : i = ls.length := by
          have := (List.getElem?_eq_some_iff.mp a).1
          simp at this; omega
        subst e1
        rw [List.getElem?_append_right (Nat.le_refl _)] at a
        rw [List.getElem?_append_right (by omega), len] at b
        simp at a b
        subst a; subst b
        exact hl
    nd := h.nd, NE := h.NE, nN := h.nN, nE := h.nE, uN := h.uN, uE := h.uE, ul := h.ul
    live := fun b m => by
      by_cases b1 : b = l
      · exact ⟨_, b1 ▸ hl⟩
      obtain ⟨x, e⟩ := h.live b m
      exact ⟨x, kp b x b1 e⟩ }
end
/-- lists of ints that stay as they are -/
structure UsAt (H : Hp) (W : Addr → Prop) (A : Addr) (ls : List Addr) (us : List (List Int)) : Prop where
  hA : H A = some (.lst (ls.map V.ref))
  len : ls.length = us.length
  row : ∀ (i : Nat) l e, ls[i]? = some l → us[i]? = some e → H l = some (.lst (e.map V.int))
  wA : W A
  wl : ∀ l ∈ ls, W l
  nA : A ∉ ls
  live : ∀ b, W b → ∃ x, H b = some x
theorem UsAt.keep {H H' : Hp} {W : Addr → Prop} {A : Addr} {ls : List Addr} {us : List (List Int)} (h : UsAt H W A ls us) (k : ∀ b x, W b → H b = some x → H' b = some x) : UsAt H' W A ls us :=
  { h with hA := k _ _ h.wA h.hA, row := fun i l e a b => k _ _ (h.wl l (List.mem_of_getElem? a)) (h.row i l e a b), live := fun b m => let ⟨x, e⟩ := h.live b m; ⟨x, k b x m e⟩ }
theorem UsAt.push {H H3 : Hp} {W : Addr → Prop} {A l : Addr} {ls : List Addr} {us : List (List Int)} {e : List Int} (h : UsAt H W A ls us) (hA : H3 A = some (.lst (ls.map V.ref ++ [.ref l]))) (hl : H3 l = some (.lst (e.map V.int))) (kp : ∀ b x, W b → b ≠ A → H b = some x → H3 b = some x) (lA : A ≠ l) :
    UsAt H3 (fun b => W b ∨ b = l) A (ls ++ [l]) (us ++ [e]) := by
  have len := h.len
  exact {
    hA := by rw [hA, List.map_append]; rfl
    len := by simp [len]
    row := fun i l' e2 a b => by
      by_cases hi : i < ls.length
      · rw [List.getElem?_append_left hi] at a
        rw [List.getElem?_append_left (by omega)] at b
        have m := List.mem_of_getElem? a
        exact kp _ _ (h.wl _ m) (fun z => h.nA (z ▸ m)) (h.row i l' e2 a b)
      · have e1 : i = ls.length := by
          have := (List.getElem?_eq_some_iff.mp a).1
          simp at this; omega
        subst e1
        rw [List.getElem?_append_right (Nat.le_refl _)] at a
        rw [List.getElem?_append_right (by omega), len] at b
        simp at a b
        subst a; subst b
        exact hl
    wA := .inl h.wA
    wl := fun b m => (List.mem_append.mp m).elim (fun m => .inl (h.wl b m)) (fun m => .inr (List.mem_singleton.mp m))
    nA := by simp [h.nA, lA]
    live := fun b m => by
      rcases m with m | rfl
      · by_cases b1 : b = A
        · exact ⟨_, b1 ▸ hA⟩
        obtain ⟨x, e⟩ := h.live b m
        exact ⟨x, kp b x m b1 e⟩
      · exact ⟨_, hl⟩ }
/-! ### the levels rise -/
def csAt (cs : List Int) (x : Int) : Int := cs.getD x.toNat 0
inductive Ris (cs : List Int) (us : List (List Int)) : List Int → List (List Int) → Prop
  | nil : Ris cs us [] []
  | snoc {ns : List Int} {es : List (List Int)} {k : Int} {e : List Int} : Ris cs us ns es → topLev cs ns es < k → 1 ≤ k → k ≤ 10 → (∀ x ∈ e, x ∈ us.getD k.toNat []) → Ris cs us (ns ++ [k]) (es ++ [e])
theorem topLev_snoc (cs ns : List Int) (es : List (List Int)) (k : Int) (e : List Int) : topLev cs (ns ++ [k]) (es ++ [e]) = lev cs k e := by
  unfold topLev
  simp only [List.getLast?_append, List.getLast?_singleton, Option.some_or]
theorem lev_ge (cs : List Int) (k : Int) (e : List Int) : k ≤ lev cs k e ∧ ∀ x ∈ e, csAt cs x ≤ lev cs k e := by
  obtain ⟨h1, h2⟩ := mxl_ge k (e.map fun x => cs.getD x.toNat 0)
  exact ⟨h1, fun x m => h2 _ (List.mem_map.mpr ⟨x, m, rfl⟩)⟩
theorem Ris.all {cs : List Int} {us : List (List Int)} {ns : List Int} {es : List (List Int)} (h : Ris cs us ns es) : ∀ e ∈ es, ∀ x ∈ e, csAt cs x ≤ topLev cs ns es := by
  induction h with
  | nil => simp
  | snoc h lt k1 k2 hx ih =>
    rename_i ns es k e
    intro e' m x mx
    rw [topLev_snoc]
    obtain ⟨a, b⟩ := lev_ge cs k e
    rcases List.mem_append.mp m with m | m
    · have := ih e' m x mx
      omega
    · rw [List.mem_singleton.mp m] at mx
      exact b x mx
theorem Ris.inv {cs : List Int} {us : List (List Int)} {ns : List Int} {es : List (List Int)} {k : Int} {e : List Int} (h : Ris cs us (ns ++ [k]) (es ++ [e])) : Ris cs us ns es ∧ topLev cs ns es < k ∧ 1 ≤ k ∧ k ≤ 10 ∧ ∀ x ∈ e, x ∈ us.getD k.toNat [] := by
  generalize hn : ns ++ [k] = N at h
  generalize he : es ++ [e] = E at h
  cases h with
  | nil => simp at hn
  | snoc h lt k1 k2 hx =>
    obtain ⟨a, b⟩ := List.append_inj' hn rfl
    obtain ⟨c, d⟩ := List.append_inj' he rfl
    cases a; cases b; cases c; cases d
    exact ⟨h, lt, k1, k2, hx⟩
theorem Ris.rises {cs : List Int} {us : List (List Int)} {ns : List Int} {es : List (List Int)} (h : Ris cs us ns es) : ns.length = es.length ∧ ((ns.zip es).map fun p => lev cs p.1 p.2).getLastD 0 = topLev cs ns es ∧
    ∀ (i : Nat) a b, ((ns.zip es).map fun p => lev cs p.1 p.2)[i]? = some a → ((ns.zip es).map fun p => lev cs p.1 p.2)[i + 1]? = some b → a < b := by
  induction h with
  | nil => exact ⟨rfl, rfl, by simp⟩
  | snoc h lt k1 k2 hx ih =>
    rename_i ns es k e
    obtain ⟨i1, i2, i3⟩ := ih
    have z : ((ns ++ [k]).zip (es ++ [e])).map (fun p => lev cs p.1 p.2) = ((ns.zip es).map fun p => lev cs p.1 p.2) ++ [lev cs k e] := by
      rw [List.zip_append i1, List.map_append]
      rfl
    rw [z, topLev_snoc]
    refine ⟨by simp [i1], by simp, fun i a b ha hb => ?_⟩
    generalize hL : (ns.zip es).map (fun p => lev cs p.1 p.2) = L at *
    by_cases hi : i + 1 < L.length
    · rw [List.getElem?_append_left (by omega)] at ha
      rw [List.getElem?_append_left hi] at hb
      exact i3 i a b ha hb
    · have hlt := (List.getElem?_eq_some_iff.mp hb).1
      simp at hlt
      have e1 : i + 1 = L.length := by omega
      rw [List.getElem?_append_right (by omega), e1] at hb
      simp at hb
      rw [List.getElem?_append_left (by omega)] at ha
      have e2 : L.getLastD 0 = a := by
        rw [List.getLastD_eq_getLast?, List.getLast?_eq_getElem?, show L.length - 1 = i by omega, ha]
        rfl
      obtain ⟨g, _⟩ := lev_ge cs k e
      rw [← hb]
      omega
/-! ### comprehensions that keep some -/
theorem lc_some {J : It} {n : Nat} {G : Hp → Prop} {Y : Nat → Hp → V → Hp → Prop} (w : Walk J n G Y) {g : TG} {tt : TT} {te : TE} {vs : List Nat} {σ : L2.St} {H1 : Hp} {D : Addr} {Qd : Hp → Prop} (P : Int → Prop) (Cm : Nat → Int → Prop) (nD : H1 D = none) (hn : n ≤ 90000) (hG : ∀ H, Rd.But D H1 H → G H)
    (hs : ∀ (i : Nat) x H H' (Kt : VK) (Kn : Hp → Prop), i < n → Rd.But D H1 H → Y i H x H' → (∀ v H4, P v → (∀ u, Cm i u → u = v) → Same H H4 → Kt (.int v) H4) → (∀ H4, (∀ u, ¬ Cm i u) → Same H H4 → Kn H4) →
      g x (wipe σ vs) H' fun σ2 H2 => wipe σ2 vs = wipe σ vs ∧ tt σ2 H2 fun b H3 => if b = true then te σ2 H3 Kt else Kn H3)
    (hd : ∀ H (ys : List Int), (∀ v ∈ ys, P v) → (∀ i u, i < n → Cm i u → u ∈ ys) → ys.length ≤ n → Same H1 H → H D = some (.lst (ys.map V.int)) → Qd H) :
    ∃ W : Nat → Nat → Hp → Prop, (∃ m, W 0 m (upd H1 D (.lst []))) ∧ ∀ i m H, W i m H →
      (J.stop i H ∧ Qd H) ∨ (J.go i H ∧ ∃ Nx : Hp → Prop, (∀ H', Nx H' → ∃ m', m' < m ∧ W (i + 1) m' H') ∧ ∀ x H', J.yld i H x H' → g x (wipe σ vs) H' fun σ2 H2 => wipe σ2 vs = wipe σ vs ∧ tt σ2 H2 fun b H3 =>
        if b = true then te σ2 H3 fun y H4 => ∃ acc, H4 D = some (.lst acc) ∧ acc.length < sizeLine ∧ Nx (upd H4 D (.lst (acc ++ [y]))) else Nx H3) := by
  refine lc_it w (fun i H => ∃ ys : List Int, (∀ v ∈ ys, P v) ∧ (∀ j u, j < i → Cm j u → u ∈ ys) ∧ ys.length ≤ i ∧ Rd.But D H1 H ∧ H D = some (.lst (ys.map V.int))) ⟨[], by simp, fun j u h => absurd h (Nat.not_lt_zero _), Nat.le_refl _, Rd.But.at_, upd_same⟩ (fun i H _ ⟨_, _, _, _, b, _⟩ => hG H b) (fun i x H H' hi ⟨ys, h1, h2, h3, b, hD⟩ y => ?_) (fun H ⟨ys, h1, h2, h3, b, hD⟩ => hd H ys h1 h2 h3 (b.to nD) hD)
  refine hs i x H H' _ _ hi b y (fun v H4 pv cm sm => ?_) (fun H4 cm sm => ?_)
  · refine ⟨_, sm _ _ hD, Rd.szl (by rw [List.length_map]; omega), ys ++ [v], fun u m => ?_, fun j u hj c => ?_, by simp; omega, (b.trans (Rd.But.same sm)).trans Rd.But.at_, by rw [upd_same, List.map_append]; rfl⟩
    · rcases List.mem_append.mp m with m | m
      · exact h1 u m
      · rw [List.mem_singleton.mp m]; exact pv
    · by_cases e : j = i
      · subst e
        rw [cm u c]
        exact List.mem_append_right _ (List.mem_singleton.mpr rfl)
      · exact List.mem_append_left _ (h2 j u (by omega) c)
  · refine ⟨ys, h1, fun j u hj c => ?_, by omega, b.trans (Rd.But.same sm), sm _ _ hD⟩
    by_cases e : j = i
    · subst e
      exact absurd c (cm u)
    · exact h2 j u (by omega) c
/-- a comprehension over a range whose tests are drawn -/
theorem lc_drawf {n : Nat} {g : TG} {tt : TT} {te : TE} {vs : List Nat} {σ : L2.St} {H1 : Hp} {D p c : Addr} {Qd : Hp → Prop} (G : Int → Prop) (st : StOk H1 p c) (nD : H1 D = none) (hn : n ≤ 90000)
    (hs : ∀ (i : Nat) H (Kt : VK) (Kn : Hp → Prop), i < n → StOk H p c → (∀ v H4, G v → StOk H4 p c → Keep p H H4 → Kt (.int v) H4) → (∀ H4, StOk H4 p c → Keep p H H4 → Kn H4) → g (.int (i : Int)) (wipe σ vs) H fun σ2 H2 => wipe σ2 vs = wipe σ vs ∧ tt σ2 H2 fun b H3 => if b = true then te σ2 H3 Kt else Kn H3)
    (hd : ∀ H (ns : List Int), ns.length ≤ n → (∀ v ∈ ns, G v) → StOk H p c → Keep p H1 H → H D = some (.lst (ns.map V.int)) → Qd H) :
    ∃ W : Nat → Nat → Hp → Prop, (∃ m, W 0 m (upd H1 D (.lst []))) ∧ ∀ i m H, W i m H →
      ((Itr 0 n).stop i H ∧ Qd H) ∨ ((Itr 0 n).go i H ∧ ∃ Nx : Hp → Prop, (∀ H', Nx H' → ∃ m', m' < m ∧ W (i + 1) m' H') ∧ ∀ x H', (Itr 0 n).yld i H x H' → g x (wipe σ vs) H' fun σ2 H2 => wipe σ2 vs = wipe σ vs ∧ tt σ2 H2 fun b H3 =>
        if b = true then te σ2 H3 fun y H4 => ∃ acc, H4 D = some (.lst acc) ∧ acc.length < sizeLine ∧ Nx (upd H4 D (.lst (acc ++ [y]))) else Nx H3) := by
  have pD := st.ne nD
  have stk : ∀ {H' : Hp} {o : HO}, StOk H' p c → StOk (upd H' D o) p c := fun s => by
    obtain ⟨ms, k, v, sd, a, b, d, r⟩ := s
    exact ⟨ms, k, v, sd, a, by rw [upd_ne pD.1.symm]; exact b, by rw [upd_ne pD.2.symm]; exact d, r⟩
  refine lc_it walk_range (fun i H => ∃ ns : List Int, ns.length ≤ i ∧ (∀ v ∈ ns, G v) ∧ StOk H p c ∧ Keep p H1 H ∧ H D = some (.lst (ns.map V.int))) ⟨[], Nat.le_refl _, by simp, stk (H' := H1) st, Keep.same (same_new nD), upd_same⟩ (fun _ _ _ _ => trivial) (fun i x H H' hi h y => ?_) (fun H ⟨ns, a, b, d, e, f⟩ => hd H ns a b d e f)
  obtain ⟨ns, ln, gn, s1, k1, hD⟩ := h
  obtain ⟨rfl, e⟩ := Rd.zr y
  subst e
  refine hs i _ _ _ hi s1 (fun v H4 gv s4 k4 => ?_) (fun H4 s4 k4 => ⟨ns, by omega, gn, s4, k1.trans k4, k4 _ _ pD.1 hD⟩)
  have hD4 := k4 _ _ pD.1 hD
  refine ⟨_, hD4, Rd.szl (by rw [List.length_map]; omega), ns ++ [v], by simp; omega, fun u m => ?_, stk (H' := H4) s4, fun b o n1 h => ?_, by rw [upd_same, List.map_append]; rfl⟩
  · rcases List.mem_append.mp m with m | m
    · exact gn u m
    · rw [List.mem_singleton.mp m]; exact gv
  · have nb : b ≠ D := fun z => by rw [z, nD] at h; cases h
    rw [upd_ne nb]
    exact k4 b o n1 (k1 b o n1 h)

section
variable {P : Program} {w : World} {K : PySem.W.Frag} {mg : Str → Option Value} {base : Heap}
def sp__law_rising : Sp := fun vs H Q _ => ∃ (L : Addr) (xs : List Int), vs = [.ref L] ∧ H L = some (.lst (xs.map V.int)) ∧ xs.length ≤ 10000 ∧ (∀ (i : Nat) a b, xs[i]? = some a → xs[i + 1]? = some b → a < b) ∧ Q (.bl true) H
theorem ok__law_rising (T : Top K mg) : FnOk P w K mg base CX0 1 T.a__law_rising T.d__law_rising ["levels"]  sp__law_rising := by
  refine T.F__law_rising.ok sc__law_rising (fun vs H Q E h => ?_) (fun cdv A outer s H vs Q E hr h => ?_)
  · obtain ⟨_, _, rfl, _⟩ := h
    rfl
  · obtain ⟨L, xs, rfl, hL, hn, hr, q⟩ := h
    refine ⟨_, (pss_cons (ps_for PassesOwn.never rfl (pi_range1 (by rfl) T.m_range (pa_cons (pe_op op_sub (pe_callB call_len_seq (by rfl) T.m_len PySem.boot_len (pa_cons (pv 0) pa_nil)) pe_int) pa_nil)) (pg_name (i := 1) sc__law_rising.nd rfl (by first | exact Or.inl rfl | exact Or.inr rfl))
  (pss_one (ps_if (pt_cmpR op_ge (pe_ix ix_list (pv 0) (pv 1) (fun _ _ => rfl)) (pe_ix ix_list (pv 0) (pe_op op_add (pv 1) pe_int) (fun _ _ => rfl)) (nomark _))
  (pss_one (ps_ret pe_bl))
  pss_nil)))
  (pss_one (ps_ret pe_bl))), ?_⟩
    rw [show ∀ a0 : V, L2.start ["levels", "k"] [a0] = [some a0, none] from fun _ => rfl]
    walk_at "my rn"
    rw [List.length_map]
    refine ⟨by omega, by omega, for_it walk_range (fun i σ H' => H' = H ∧ ∃ y, σ = [some (.ref L), y]) ⟨rfl, none, rfl⟩ (fun _ _ _ _ _ => trivial) ?_ ?_⟩
    · rintro i x σ H' H'' hi ⟨rfl, y, rfl⟩ yy
      obtain ⟨rfl, e3⟩ := Rd.zr yy
      subst e3
      obtain ⟨a, ha⟩ : ∃ a, xs[i]? = some a := ⟨_, List.getElem?_eq_getElem (by omega)⟩
      obtain ⟨b, hb⟩ : ∃ b, xs[i + 1]? = some b := ⟨_, List.getElem?_eq_getElem (by omega)⟩
      walk_at "my rn"
      refine Rd.ixL hL (Rd.at_int (j := i) rfl ha) ?_
      walk_at "my rn"
      refine Rd.ixL hL (Rd.at_int (j := i + 1) (by simp) hb) ?_
      walk_at "my rn"
      refine Rd.ifD (fun c => ?_) (fun c => ?_)
      · have := hr i a b ha hb
        omega
      · walk_at "my rn"
        exact ⟨_, rfl⟩
    · rintro σ H' ⟨rfl, y, rfl⟩
      walk_at "my rn"
      exact q
def sp__law_users : Sp := fun vs H Q _ => ∃ (p c : Addr) (ob : Int), vs = [.ref p, .int ob] ∧ StOk H p c ∧ 0 ≤ ob ∧ ob ≤ 100 ∧
  ∀ (H' : Hp) (W : Addr → Prop) (A : Addr) (ls : List Addr) (us : List (List Int)), UsAt H' W A ls us → us.length = 11 → (∀ e ∈ us, ∀ x ∈ e, 0 ≤ x ∧ x < ob) → (∀ e ∈ us, e.length ≤ 100) → (∀ b, W b → H b = none) → StOk H' p c → Keep p H H' → Q (.ref A) H'
theorem ok__law_users (T : Top K mg) : FnOk P w K mg base CX0 2 T.a__law_users T.d__law_users ["state", "objects"]  sp__law_users := by
  refine T.F__law_users.ok sc__law_users (fun vs H Q E h => ?_) (fun cdv A outer s H vs Q E hr h => ?_)
  · obtain ⟨_, _, _, rfl, _⟩ := h
    rfl
  · obtain ⟨p, c, ob, rfl, st, o0, o1, q⟩ := h
    refine ⟨_, (pss_cons (ps_set (i := 2) sc__law_users.nd rfl (by first | exact Or.inl rfl | exact Or.inr rfl) (pe_lst pa_nil))
  (pss_cons (ps_for PassesOwn.never rfl (pi_range1 (by rfl) T.m_range (pa_cons pe_int pa_nil)) (pg_name (i := 3) sc__law_users.nd rfl (by first | exact Or.inl rfl | exact Or.inr rfl))
  (pss_one (ps_expr (pe_bm PySem.F.plainAttrs_list PySem.F.slot_list_append PySem.F.type_list_append mt_append (pv 2) (pa_cons (pe_lc (own := [("item", 4)]) (g := gName 4) rfl sc__law_users.nd (pi_range1 (by rfl) T.m_range (pa_cons (pv 1) pa_nil)) (blkOk_by (N := ["state", "objects", "users", "number", "item"]) (sc := defScope s__law_users) (by decide +kernel)) (fun _ _ _ _ _ => pg_name (i := 4) sc__law_users.nd rfl (Or.inl rfl)) (fun _ _ _ _ _ => pts_one (pt_cmpR op_eq (pe_call (ok__law_draw T) (hr.mono (by decide)) (by rfl) T.g__law_draw T.F__law_draw.kp T.b__law_draw .nil pass0 (pa_cons (pv 0) (pa_cons pe_int pa_nil))) pe_int (nomark _))) (fun _ _ _ _ _ => (pv 4))) pa_nil)))))
  (pss_one (ps_ret (pv 2))))), ?_⟩
    rw [show ∀ a0 a1 : V, L2.start ["state", "objects", "users", "number", "item"] [a0, a1] = [some a0, some a1, none, none, none] from fun _ _ => rfl]
    walk_at "my rn"
    intro A' H1 nA s1 hA
    have st1 := st.same s1
    have pA := st.ne nA
    walk_at "my rn"
    refine ⟨by decide, by decide, for_it walk_range (fun i σ H' => ∃ (W : Addr → Prop) (ls : List Addr) (us : List (List Int)) (y : Option V), σ = [some (.ref p), some (.int ob), some (.ref A'), y, none] ∧ UsAt H' W A' ls us ∧ us.length = i ∧ (∀ e ∈ us, ∀ x ∈ e, 0 ≤ x ∧ x < ob) ∧ (∀ e ∈ us, e.length ≤ 100) ∧ (∀ b, W b → H b = none) ∧ StOk H' p c ∧ Keep p H H')
      ⟨fun b => b = A', [], [], none, rfl, ⟨hA, rfl, by simp, rfl, by simp, by simp, fun b m => ⟨_, m ▸ hA⟩⟩, rfl, by simp, by simp, fun b m => m ▸ nA, st1, Keep.same s1⟩ (fun _ _ _ _ _ => trivial) ?_ ?_⟩
    · rintro i x σ H2 H2' hi ⟨W, ls, us, y, rfl, hu, ln, h1, h1b, h2, st2, k2⟩ yy
      obtain ⟨rfl, e3⟩ := Rd.zr yy
      subst e3
      have hA2 := hu.hA
      walk_at "my rn"
      refine ⟨by omega, by omega, ?_⟩
      intro D nD
      refine lc_drawf (fun v => 0 ≤ v ∧ v < ob) st2 nD (by omega) (fun j H Kt Kn hj st5 kt kn => ?_) (fun H3 e le he st3 k3 hD => ?_)
      · simp only [List.map_cons, List.map_nil, L2.wipe, List.set_cons_succ, List.set_cons_zero]
        walk_at "my rn"
        refine ⟨rfl, ?_⟩
        walk_at "my rn"
        refine ⟨p, c, _, rfl, st5, by decide, by decide, fun a H6 a0 a1 st6 k6 => ?_⟩
        walk_at "my rn"
        refine Rd.ifD (fun c1 => ?_) (fun c1 => ?_)
        · walk_at "my rn"
          exact kt _ _ ⟨by omega, by omega⟩ st6 k6
        · exact kn _ st6 k6
      have fW : ∀ b, W b → b ≠ p := fun b m z => by
        obtain ⟨ms, kk, v, sd, a, b', d, r⟩ := st
        rw [← z, h2 b m] at b'; cases b'
      have hu3 := hu.keep fun b x m e => k3 b x (fW b m) e
      have hA3 := hu3.hA
      walk_at "my rn"
      refine Rd.app hA3 (Rd.szl (by have := hu.len; rw [List.length_map]; omega)) ?_
      have AD : A' ≠ D := fun z => by rw [← z, hA2] at nD; cases nD
      have hu4 := hu3.push (H3 := upd H3 A' (.lst (ls.map V.ref ++ [.ref D]))) (l := D) (e := e) upd_same (by rw [upd_ne AD.symm]; exact hD) (fun b x _ n e => by rw [upd_ne n]; exact e) AD
      have k03 := k2.trans k3
      have nD0 : H D = none := k2.free st2 nD
      refine ⟨_, _, _, _, rfl, hu4, by simp [ln], fun e2 m => (List.mem_append.mp m).elim (h1 e2) (fun m => by rw [List.mem_singleton.mp m]; exact he), fun e2 m => (List.mem_append.mp m).elim (h1b e2) (fun m => by rw [List.mem_singleton.mp m]; omega), fun b m => m.elim (h2 b) (fun m => m ▸ nD0), ?_, fun b x nb e => ?_⟩
      · obtain ⟨ms, kk, v, sd, a, b, d, r⟩ := st3
        exact ⟨ms, kk, v, sd, a, by rw [upd_ne pA.1.symm]; exact b, by rw [upd_ne pA.2.symm]; exact d, r⟩
      · have nA2 : b ≠ A' := fun z => by rw [z, nA] at e; cases e
        rw [upd_ne nA2]
        exact k03 b x nb e
    · rintro σ H2 ⟨W, ls, us, y, rfl, hu, ln, h1, h1b, h2, st2, k2⟩
      walk_at "my rn"
      exact q _ W A' ls us hu (by rw [ln]; rfl) h1 h1b h2 st2 k2
def sp__law_ceilings : Sp := fun vs H Q _ => ∃ (p c A : Addr) (ob : Int) (W : Addr → Prop) (ls : List Addr) (us : List (List Int)), vs = [.ref p, .ref A, .int ob] ∧ StOk H p c ∧ 0 ≤ ob ∧ ob ≤ 100 ∧ UsAt H W A ls us ∧ us.length = 11 ∧ (∀ b, W b → b ≠ p) ∧
  ∀ (H' : Hp) (D : Addr) (cs : List Int), H D = none → H' D = some (.lst (cs.map V.int)) → (cs.length : Int) = ob → (∀ (n x : Int), 1 ≤ n → n ≤ 10 → 0 ≤ x → x < ob → x ∈ us.getD n.toNat [] → n ≤ csAt cs x) → StOk H' p c → Keep p H H' → Q (.ref D) H'
theorem ok__law_ceilings (T : Top K mg) : FnOk P w K mg base CX0 2 T.a__law_ceilings T.d__law_ceilings ["state", "users", "objects"]  sp__law_ceilings := by
  refine T.F__law_ceilings.ok sc__law_ceilings (fun vs H Q E h => ?_) (fun cdv A outer s H vs Q E hr h => ?_)
  · obtain ⟨_, _, _, _, _, _, _, rfl, _⟩ := h
    rfl
  · obtain ⟨p, c, A', ob, W, ls, us, rfl, st, o0, o1, hu, lu, wp, q⟩ := h
    refine ⟨_, (pss_cons (ps_set (i := 3) sc__law_ceilings.nd rfl (by first | exact Or.inl rfl | exact Or.inr rfl) (pe_lst pa_nil))
  (pss_cons (ps_for PassesOwn.never rfl (pi_range1 (by rfl) T.m_range (pa_cons (pv 2) pa_nil)) (pg_name (i := 4) sc__law_ceilings.nd rfl (by first | exact Or.inl rfl | exact Or.inr rfl))
  (pss_one (ps_expr (pe_bm PySem.F.plainAttrs_list PySem.F.slot_list_append PySem.F.type_list_append mt_append (pv 3) (pa_cons (pe_op op_add (pe_callB (cr_max rfl) (by rfl) T.m_max (by decide +kernel) (pa_cons (pe_op op_cat (pe_lst (pa_cons pe_int pa_nil)) (pe_lc (own := [("number", 5)]) (g := gName 5) rfl sc__law_ceilings.nd (pi_range2 (by rfl) T.m_range (pa_cons pe_int (pa_cons pe_int pa_nil))) (blkOk_by (N := ["state", "users", "objects", "ceilings", "item", "number"]) (sc := defScope s__law_ceilings) (by decide +kernel)) (fun _ _ _ _ _ => pg_name (i := 5) sc__law_ceilings.nd rfl (Or.inl rfl)) (fun _ _ _ _ _ => pts_one (pt_cmpR (show OpR _ (compareOp .In) (rIn K false) from op_in_seq) (pv 4) (pe_ix (r := rIxL K) ix_list (pv 1) (pv 5) (fun _ _ => rfl)) (by with_unfolding_all rfl))) (fun _ _ _ _ _ => (pv 5)))) pa_nil)) (pe_call (ok__law_draw T) (hr.mono (by decide)) (by rfl) T.g__law_draw T.F__law_draw.kp T.b__law_draw .nil pass0 (pa_cons (pv 0) (pa_cons pe_int pa_nil)))) pa_nil)))))
  (pss_one (ps_ret (pv 3))))), ?_⟩
    rw [show ∀ a0 a1 a2 : V, L2.start ["state", "users", "objects", "ceilings", "item", "number"] [a0, a1, a2] = [some a0, some a1, some a2, none, none, none] from fun _ _ _ => rfl]
    walk_at "my rn"
    intro D H1 nD s1 hD
    have st1 := st.same s1
    have pD := st.ne nD
    walk_at "my rn"
    refine ⟨by omega, by omega, for_it walk_range (fun i σ H' => ∃ (cs : List Int) (y : Option V), σ = [some (.ref p), some (.ref A'), some (.int ob), some (.ref D), y, none] ∧ H' D = some (.lst (cs.map V.int)) ∧ cs.length = i ∧ (∀ (n x : Int), 1 ≤ n → n ≤ 10 → 0 ≤ x → x < (i : Int) → x ∈ us.getD n.toNat [] → n ≤ csAt cs x) ∧ StOk H' p c ∧ Keep p H H')
      ⟨[], none, rfl, hD, rfl, fun n x _ _ a b _ => by omega, st1, Keep.same s1⟩ (fun _ _ _ _ _ => trivial) ?_ ?_⟩
    · rintro i x σ H2 H2' hi ⟨cs, y, rfl, hD2, ln, hc, st2, k2⟩ yy
      obtain ⟨rfl, e3⟩ := Rd.zr yy
      subst e3
      have hu2 := hu.keep fun b x m e => k2 b x (wp b m) e
      walk_at "my rn"
      intro p1 H3 np1 s3 hp1
      have hu3 := hu2.keep fun b x _ e => s3 b x e
      have hA3 := hu3.hA
      walk_at "my rn"
      refine ⟨by decide, ?_⟩
      intro F nF
      refine lc_some walk_range (fun v => 1 ≤ v ∧ v ≤ 10) (fun j u => u = 1 + (j : Int) ∧ (i : Int) ∈ us.getD u.toNat []) nF (by decide) (fun _ _ => trivial) (fun j x H4 H4' Kt Kn hj b yy kt kn => ?_) (fun H5 ys h1 h2 h3 s5 hF5 => ?_)
      · obtain ⟨rfl, rfl⟩ := yy
        have hu4 := hu3.keep fun b' x _ e => b.to nF b' x e
        have hA4 := hu4.hA
        have hj2 : j < 10 := hj
        obtain ⟨l, hl⟩ : ∃ l, ls[1 + j]? = some l := ⟨_, List.getElem?_eq_getElem (by have := hu.len; omega)⟩
        obtain ⟨e, he⟩ : ∃ e, us[1 + j]? = some e := ⟨_, List.getElem?_eq_getElem (by omega)⟩
        have hr4 := hu4.row _ l e hl he
        have eu : us.getD ((1 : Int) + (j : Int)).toNat [] = e := by
          rw [show ((1 : Int) + (j : Int)).toNat = 1 + j by omega, List.getD_eq_getElem?_getD, he]
          rfl
        simp only [List.map_cons, List.map_nil, L2.wipe, List.set_cons_succ, List.set_cons_zero]
        walk_at "my rn"
        refine ⟨rfl, ?_⟩
        walk_at "my rn"
        refine Rd.ixL hA4 (Rd.at_val (j := 1 + j) (by simp) (by rw [List.getElem?_map, hl]; rfl)) ?_
        walk_at "my rn"
        refine Rd.inI hr4 ?_
        walk_at "my rn"
        refine Rd.ifD (fun c1 => ?_) (fun c1 => ?_)
        · walk_at "my rn"
          exact kt _ _ ⟨by omega, by omega⟩ (fun u h => h.1) (Same.refl _)
        · exact kn _ (fun u h => c1 (by rw [← eu, ← h.1]; exact h.2)) (Same.refl _)
      have hp5 := s5 _ _ hp1
      walk_at "my rn"
      refine Rd.cat hp5 hF5 (by rw [List.length_map]; have : ys.length ≤ 10 := h3; simp; omega) fun S H6 nS s6 hS => ?_
      have hS2 : H6 S = some (.lst (((0 : Int) :: ys).map V.int)) := hS
      refine Rd.nil ?_
      refine Rd.maxL hS2 (by simp) fun m m1 m2 => ?_
      have s26 := s3.trans (s5.trans s6)
      walk_at "my rn"
      refine ⟨p, c, _, rfl, st2.same s26, by decide, by decide, fun a H7 a0 a1 st7 k7 => ?_⟩
      have hD7 := k7 _ _ pD.1 (s26 _ _ hD2)
      walk_at "my rn"
      refine Rd.app hD7 (Rd.szl (by rw [List.length_map]; omega)) ?_
      have k07 := k2.trans ((Keep.same s26).trans k7)
      refine ⟨cs ++ [m + a], _, rfl, by rw [upd_same, List.map_append]; rfl, by simp [ln], fun n x n0 n1 x0 x1 hx => ?_, ?_, fun b o nb h => ?_⟩
      · by_cases hxi : x < (i : Int)
        · have := hc n x n0 n1 x0 hxi hx
          unfold csAt at this ⊢
          rw [List.getD_eq_getElem?_getD, List.getElem?_append_left (by omega), ← List.getD_eq_getElem?_getD]
          exact this
        · have ex : x = (i : Int) := by omega
          subst ex
          have hm : n ≤ m := m2 n (List.mem_cons_of_mem _ (h2 (n.toNat - 1) n (by show n.toNat - 1 < (11 - 1 : Int).toNat; omega) ⟨by omega, hx⟩))
          unfold csAt
          rw [List.getD_eq_getElem?_getD, List.getElem?_append_right (by omega)]
          simp [ln]
          omega
      · obtain ⟨ms, kk, v, sd, a', b', d', r⟩ := st7
        exact ⟨ms, kk, v, sd, a', by rw [upd_ne pD.1.symm]; exact b', by rw [upd_ne pD.2.symm]; exact d', r⟩
      · have nD2 : b ≠ D := fun z => by rw [z, nD] at h; cases h
        rw [upd_ne nD2]
        exact k07 b o nb h
    · rintro σ H2 ⟨cs, y, rfl, hD2, ln, hc, st2, k2⟩
      walk_at "my rn"
      exact q _ D cs nD hD2 (by rw [ln]; omega) (fun n x a b d e f => hc n x a b d (by omega) f) st2 k2
end

end Mine

set_option Elab.async false
set_option linter.all false
set_option maxRecDepth 100000
set_option maxHeartbeats 1000000


namespace Mine
open PySem PySem.Spec PyProof.Rows L2
local macro_rules | `(tactic| walk_at "my rn") => `(tactic| (repeat (first | with_reducible refine Rd.fld ?_ | with_reducible refine Rd.sfld ?_ | with_reducible refine Rd.meth ?_ | with_reducible refine Rd.make ?_ | with_reducible refine Rd.izip ?_ | with_reducible refine Rd.tupN ?_ | with_reducible refine Rd.lstN ?_ | with_reducible refine Rd.cbListOf ?_ | with_reducible refine Rd.cbListOfR ?_ | with_reducible refine Rd.catI ?_ | with_reducible refine Rd.slN ?_ | with_reducible refine Rd.cbSrtI ?_ | with_reducible refine Rd.seq ?_ | with_reducible refine Rd.next ?_ | with_reducible refine Rd.brk ?_ | with_reducible refine Rd.cont ?_ | with_reducible refine Rd.asg ?_ | with_reducible refine Rd.ret ?_ | with_reducible refine Rd.retN ?_ | with_reducible refine Rd.drop ?_ | with_reducible refine Rd.ifs ?_ | with_reducible refine Rd.ife ?_ | with_reducible refine Rd.test ?_ | with_reducible refine Rd.tb_ ?_ | with_reducible refine Rd.bl ?_ | with_reducible refine Rd.bl2 ?_ | with_reducible refine Rd.and_ ?_ | with_reducible refine Rd.or_ ?_ | with_reducible refine Rd.not_ ?_ | with_reducible refine Rd.andV ?_ | with_reducible refine Rd.orV ?_ | with_reducible refine Rd.notV ?_ | with_reducible refine Rd.op ?_ | with_reducible refine Rd.un ?_ | with_reducible refine Rd.I0 ?_ | with_reducible refine Rd.U ?_ | with_reducible refine Rd.ip ?_ | with_reducible refine Rd.c_ ?_ | with_reducible refine Rd.nil ?_ | with_reducible refine Rd.cons ?_ | with_reducible refine Rd.call ?_ | with_reducible refine Rd.cb ?_ | with_reducible refine Rd.bm ?_ | with_reducible refine Rd.bm0 ?_ | with_reducible refine Rd.nopart ?_ | with_reducible refine Rd.part ?_ | with_reducible refine Rd.int1 ?_ | with_reducible refine Rd.ints1 ?_ | with_reducible refine Rd.ints2 ?_ | with_reducible refine Rd.gcons ?_ | with_reducible refine Rd.gnil ?_ | with_reducible refine Rd.sub ?_ | with_reducible refine Rd.isN ?_ | with_reducible refine Rd.chain ?_ | with_reducible refine Rd.rf ?_ | with_reducible refine Rd.tyS ?_ | with_reducible refine Rd.intI ?_ | with_reducible refine Rd.lc ?_ | with_reducible refine Rd.for_ ?_ | with_reducible refine Rd.ilist ?_ | with_reducible refine Rd.itup ?_ | with_reducible refine Rd.irng1 ?_ | with_reducible refine Rd.irng2 ?_ | with_reducible refine Rd.ienum ?_ | with_reducible refine Rd.istr ?_ | with_reducible refine Rd.refA ?_ | with_reducible refine Rd.strA ?_ | with_reducible refine Rd.yes ?_ | with_reducible refine Rd.ifT ?_ | with_reducible refine Rd.ifF ?_ | with_reducible refine Rd.ifnT ?_ | with_reducible refine Rd.ifnF ?_ | with_reducible refine Rd.isi_ii ?_ | with_reducible refine Rd.isi_ib ?_ | with_reducible refine Rd.isi_is ?_ | with_reducible refine Rd.isi_il ?_ | with_reducible refine Rd.isi_it ?_ | with_reducible refine Rd.isi_id ?_ | with_reducible refine Rd.isi_bi ?_ | with_reducible refine Rd.isi_bb ?_ | with_reducible refine Rd.isi_bs ?_ | with_reducible refine Rd.isi_bl ?_ | with_reducible refine Rd.isi_bt ?_ | with_reducible refine Rd.isi_bd ?_ | with_reducible refine Rd.isi_si ?_ | with_reducible refine Rd.isi_sb ?_ | with_reducible refine Rd.isi_ss ?_ | with_reducible refine Rd.isi_sl ?_ | with_reducible refine Rd.isi_st ?_ | with_reducible refine Rd.isi_sd ?_ | with_reducible refine Rd.isi_ni ?_ | with_reducible refine Rd.isi_nb ?_ | with_reducible refine Rd.isi_ns ?_ | with_reducible refine Rd.isi_nl ?_ | with_reducible refine Rd.isi_nt ?_ | with_reducible refine Rd.isi_nd ?_ | with_reducible refine Rd.sl ?_ | with_reducible refine Rd.v0 ?_ | with_reducible refine Rd.v1 ?_ | with_reducible refine Rd.v2 ?_ | with_reducible refine Rd.v3 ?_ | with_reducible refine Rd.v4 ?_ | with_reducible refine Rd.v5 ?_ | with_reducible refine Rd.v6 ?_ | with_reducible refine Rd.v7 ?_ | with_reducible refine Rd.v8 ?_ | with_reducible refine Rd.v9 ?_ | with_reducible refine Rd.v10 ?_ | with_reducible refine Rd.v11 ?_ | with_reducible refine Rd.v12 ?_ | with_reducible refine Rd.v13 ?_ | with_reducible refine Rd.v14 ?_ | with_reducible refine Rd.v15 ?_ | with_reducible refine Rd.n0 ?_ | with_reducible refine Rd.n1 ?_ | with_reducible refine Rd.n2 ?_ | with_reducible refine Rd.n3 ?_ | with_reducible refine Rd.n4 ?_ | with_reducible refine Rd.n5 ?_ | with_reducible refine Rd.n6 ?_ | with_reducible refine Rd.n7 ?_ | with_reducible refine Rd.n8 ?_ | with_reducible refine Rd.n9 ?_ | with_reducible refine Rd.n10 ?_ | with_reducible refine Rd.n11 ?_ | with_reducible refine Rd.n12 ?_ | with_reducible refine Rd.n13 ?_ | with_reducible refine Rd.n14 ?_ | with_reducible refine Rd.n15 ?_ | with_reducible refine Rd.g0 ?_ | with_reducible refine Rd.g1 ?_ | with_reducible refine Rd.g2 ?_ | with_reducible refine Rd.g3 ?_ | with_reducible refine Rd.g4 ?_ | with_reducible refine Rd.g5 ?_ | with_reducible refine Rd.g6 ?_ | with_reducible refine Rd.g7 ?_ | with_reducible refine Rd.g8 ?_ | with_reducible refine Rd.g9 ?_ | with_reducible refine Rd.g10 ?_ | with_reducible refine Rd.g11 ?_ | with_reducible refine Rd.g12 ?_ | with_reducible refine Rd.g13 ?_ | with_reducible refine Rd.g14 ?_ | with_reducible refine Rd.g15 ?_ | ((with_reducible apply Rd.fldI); (first | assumption | exact upd_same); assumption; assumption; (first | assumption | with_unfolding_all rfl)) | ((with_reducible apply Rd.methI); (first | assumption | exact upd_same); (first | assumption | with_unfolding_all rfl)) | ((with_reducible apply Rd.sfldI); (first | assumption | exact upd_same); assumption; assumption; exact Nat.le_of_ble_eq_true rfl) | ((with_reducible apply Rd.maxL); assumption) | ((with_reducible apply Rd.anyL); assumption) | ((with_reducible apply Rd.sumL); assumption) | ((with_reducible refine Rd.izI (by assumption) (by assumption) ?_)) | ((with_reducible refine Rd.eq ?_ ?_); exact rfl) | ((with_reducible refine Rd.ne ?_ ?_); exact rfl) | ((with_reducible refine Rd.szA ?_ ?_); exact Nat.le_of_ble_eq_true rfl) | ((with_reducible refine Rd.I ?_ ?_); first | assumption | decide | exact Or.inr (by decide +kernel) | exact Or.inl (by decide +kernel) | exact ⟨by decide, by decide⟩ | exact ⟨by decide, by decide, by decide⟩ | omega) | ((with_reducible apply Rd.tyL); first | assumption | exact upd_same) | ((with_reducible apply Rd.tyLq); assumption) | ((with_reducible apply Rd.ixL); (first | assumption | exact upd_same); exact rfl) | ((with_reducible apply Rd.ixT); (first | assumption | exact upd_same); exact rfl) | ((with_reducible apply Rd.ixLq); assumption; exact rfl) | ((with_reducible apply Rd.ixTq); assumption; exact rfl) | ((with_reducible apply Rd.gtup); (first | assumption | exact upd_same); exact rfl) | ((with_reducible apply Rd.gtupq); assumption; exact rfl) | ((with_reducible apply Rd.sqAq); assumption) | ((with_reducible apply Rd.stAq); assumption) | ((with_reducible apply Rd.enAq); assumption) | ((with_reducible apply Rd.lenLq); assumption) | ((with_reducible apply Rd.lenTq); assumption) | ((with_reducible apply Rd.sqA); first | assumption | exact upd_same) | ((with_reducible apply Rd.stA); first | assumption | exact upd_same) | ((with_reducible apply Rd.enA); first | assumption | exact upd_same) | ((with_reducible apply Rd.lenL); first | assumption | exact upd_same) | ((with_reducible apply Rd.lenT); first | assumption | exact upd_same) | ((with_reducible refine Rd.nwT ?_ ?_); exact Nat.le_of_ble_eq_true rfl) | ((with_reducible refine Rd.nwL ?_ ?_); exact Nat.le_of_ble_eq_true rfl) | ((with_reducible apply Rd.listOf); assumption) | ((with_reducible apply Rd.listOfq); assumption) | ((with_reducible apply Rd.slo); assumption) | ((with_reducible apply Rd.slq); assumption) | ((with_reducible apply Rd.srtI); assumption) | ((with_reducible apply Rd.srtIo); assumption) | ((with_reducible refine Rd.isi_li (by assumption) ?_)) | ((with_reducible refine Rd.isi_lb (by assumption) ?_)) | ((with_reducible refine Rd.isi_ls (by assumption) ?_)) | ((with_reducible refine Rd.isi_ll (by assumption) ?_)) | ((with_reducible refine Rd.isi_lt (by assumption) ?_)) | ((with_reducible refine Rd.isi_ld (by assumption) ?_)) | ((with_reducible refine Rd.isi_ti (by assumption) ?_)) | ((with_reducible refine Rd.isi_tb (by assumption) ?_)) | ((with_reducible refine Rd.isi_ts (by assumption) ?_)) | ((with_reducible refine Rd.isi_tl (by assumption) ?_)) | ((with_reducible refine Rd.isi_tt (by assumption) ?_)) | ((with_reducible refine Rd.isi_td (by assumption) ?_)))))
structure L5 (C : Addr) (H : Hp) (p c o : Addr) (W S U : Addr → Prop) (A : Addr) (uls : List Addr) (us : List (List Int)) (cs : List Int) (N E : Addr) (ls : List Addr) (ns : List Int) (es : List (List Int)) (ns2 : List Int) (es2 : List (List Int)) (n : Nat) : Prop where
  hs : Stk C H S o cs ns es n
  ll : LLAt H U N E ls ns2 es2
  uo : UsAt H W A uls us
  st : StOk H p c
  us_ : ∀ b, U b → ¬ S b
  ws : ∀ b, W b → ¬ S b
  wu : ∀ b, W b → ¬ U b
  sp : ¬ S p
  sc : ¬ S c
  up : ¬ U p
  uc : ¬ U c
  wp : ¬ W p
section
variable {C p c o A N E : Addr} {H H' : Hp} {W S U : Addr → Prop} {uls ls : List Addr} {us es es2 : List (List Int)} {cs ns ns2 : List Int} {n : Nat}
theorem L5.draw (h : L5 C H p c o W S U A uls us cs N E ls ns es ns2 es2 n) (st : StOk H' p c) (k : Keep p H H') : L5 C H' p c o W S U A uls us cs N E ls ns es ns2 es2 n :=
  { h with st := st, hs := h.hs.keep (fun b x m e => k b x (fun z => h.sp (z ▸ m)) e) (Nat.le_refl _), ll := h.ll.keep fun b x m e => k b x (fun z => h.up (z ▸ m)) e, uo := h.uo.keep fun b x m e => k b x (fun z => h.wp (z ▸ m)) e }
theorem L5.same (h : L5 C H p c o W S U A uls us cs N E ls ns es ns2 es2 n) (s : Same H H') : L5 C H' p c o W S U A uls us cs N E ls ns es ns2 es2 n :=
  { h with st := h.st.same s, hs := h.hs.keep (fun b x _ e => s b x e) (Nat.le_refl _), ll := h.ll.keep fun b x _ e => s b x e, uo := h.uo.keep fun b x _ e => s b x e }
theorem L5.le (h : L5 C H p c o W S U A uls us cs N E ls ns es ns2 es2 n) {m : Nat} (l : n ≤ m) : L5 C H p c o W S U A uls us cs N E ls ns es ns2 es2 m := { h with hs := h.hs.keep (fun _ _ _ e => e) l }
theorem L5.stk {S' : Addr → Prop} {ns' : List Int} {es' : List (List Int)} {n' : Nat} (h : L5 C H p c o W S U A uls us cs N E ls ns es ns2 es2 n) (hs : Stk C H' S' o cs ns' es' n') (k : Kp S H H') (g : Gr S S' H) : L5 C H' p c o W S' U A uls us cs N E ls ns' es' ns2 es2 n' := by
  obtain ⟨ms, kk, v, sd, a, b, d, r⟩ := h.st
  have off : ∀ b x, H b = some x → ¬ S b → ¬ S' b := fun b x e ns m => (g b m).elim ns fun z => by rw [z] at e; cases e
  exact { hs := hs, ll := h.ll.keep fun b x m e => k b x (h.us_ b m) e, uo := h.uo.keep fun b x m e => k b x (h.ws b m) e, st := ⟨ms, kk, v, sd, a, k _ _ h.sp b, k _ _ h.sc d, r⟩
          us_ := fun b m => let ⟨x, e⟩ := h.ll.live b m; off b x e (h.us_ b m), ws := fun b m => let ⟨x, e⟩ := h.uo.live b m; off b x e (h.ws b m), wu := h.wu, sp := off _ _ b h.sp, sc := off _ _ d h.sc, up := h.up, uc := h.uc, wp := h.wp }
theorem L5.job {U' : Addr → Prop} {ls' : List Addr} {ns' : List Int} {es' : List (List Int)} (h : L5 C H p c o W S U A uls us cs N E ls ns es ns2 es2 n) (ll : LLAt H' U' N E ls' ns' es') (k : ∀ b x, ¬ U b → H b = some x → H' b = some x) (g : ∀ b, U' b → U b ∨ H b = none) : L5 C H' p c o W S U' A uls us cs N E ls' ns es ns' es' n := by
  obtain ⟨ms, kk, v, sd, a, b, d, r⟩ := h.st
  have off : ∀ b x, H b = some x → ¬ U b → ¬ U' b := fun b x e ns m => (g b m).elim ns fun z => by rw [z] at e; cases e
  have liveS : ∀ b, S b → ∃ x, H b = some x := fun b m => let ⟨_, _, _, _, _, h⟩ := h.hs; h.live b m
  exact { hs := h.hs.keep (fun b x m e => k b x (fun z => h.us_ b z m) e) (Nat.le_refl _), ll := ll, uo := h.uo.keep fun b x m e => k b x (h.wu b m) e, st := ⟨ms, kk, v, sd, a, k _ _ h.up b, k _ _ h.uc d, r⟩
          us_ := fun b m m2 => (g b m).elim (fun z => h.us_ b z m2) fun z => by obtain ⟨x, e⟩ := liveS b m2; rw [z] at e; cases e
          ws := h.ws, wu := fun b m => let ⟨x, e⟩ := h.uo.live b m; off b x e (h.wu b m), sp := h.sp, sc := h.sc, up := off _ _ b h.up, uc := off _ _ d h.uc, wp := h.wp }
end
theorem inT {K : PySem.W.Frag} {H : Hp} {Q : VK} {p : Addr} {ns : List Int} {n : Int} (h : H p = some (.tup (ns.map V.int))) (q : Q (.bl (decide (n ∈ ns))) H) : rIn K false (.int n) (.ref p) H Q :=
  ⟨p, _, rfl, .inr (SqT.of h), rfl, Rd.flat_ints _, by rw [Rd.inV_ints]; exact q⟩
section
variable {P : Program} {w : World} {K : PySem.W.Frag} {mg : Str → Option Value} {base : Heap}
def sp_law (K : PySem.W.Frag) : Sp := fun vs H Q _ => ∃ (a : Addr) (ns : List Int), vs = [.ref a] ∧ SqL K H a (ns.map V.int) ∧ ns.length ≤ 63 ∧ ∀ H', Q (.bl true) H'
theorem ok_law (T : Top K mg) : FnOk P w K mg base CX0 3 T.a_law T.d_law ["script"]  (sp_law K) := by
  refine T.F_law.ok sc_law (fun vs H Q E h => ?_) (fun cdv A outer s H vs Q E hr h => ?_)
  · obtain ⟨_, _, rfl, _⟩ := h
    rfl
  · obtain ⟨l, ns, rfl, hS, hlen, q⟩ := h
    refine ⟨_, (pss_cons (ps_set (i := 1) sc_law.nd rfl (by first | exact Or.inl rfl | exact Or.inr rfl) (pe_call (ok__law_start T) (hr.mono (by decide)) (by rfl) T.g__law_start T.F__law_start.kp T.b__law_start .nil pass0 (pa_cons (pv 0) pa_nil)))
  (pss_cons (ps_set (i := 2) sc_law.nd rfl (by first | exact Or.inl rfl | exact Or.inr rfl) (pe_op op_add pe_int (pe_call (ok__law_draw T) (hr.mono (by decide)) (by rfl) T.g__law_draw T.F__law_draw.kp T.b__law_draw .nil pass0 (pa_cons (pv 1) (pa_cons pe_int pa_nil)))))
  (pss_cons (ps_set (i := 3) sc_law.nd rfl (by first | exact Or.inl rfl | exact Or.inr rfl) (pe_call (ok__law_users T) (hr.mono (by decide)) (by rfl) T.g__law_users T.F__law_users.kp T.b__law_users .nil pass0 (pa_cons (pv 1) (pa_cons (pv 2) pa_nil))))
  (pss_cons (ps_set (i := 4) sc_law.nd rfl (by first | exact Or.inl rfl | exact Or.inr rfl) (pe_make T.M_Stack (ok_Stack_init T) (hr.mono (by decide)) (by rfl) T.gc_Stack T.b_Stack_init .nil pass0 (pa_cons (pe_call (ok__law_ceilings T) (hr.mono (by decide)) (by rfl) T.g__law_ceilings T.F__law_ceilings.kp T.b__law_ceilings .nil pass0 (pa_cons (pv 1) (pa_cons (pv 3) (pa_cons (pv 2) pa_nil)))) pa_nil)))
  (pss_cons (ps_set (i := 5) sc_law.nd rfl (by first | exact Or.inl rfl | exact Or.inr rfl) (pe_lst pa_nil))
  (pss_cons (ps_set (i := 6) sc_law.nd rfl (by first | exact Or.inl rfl | exact Or.inr rfl) (pe_lst pa_nil))
  (pss_cons (ps_for PassesOwn.never rfl (pi_range1 (by rfl) T.m_range (pa_cons (pe_op op_add pe_int (pe_call (ok__law_draw T) (hr.mono (by decide)) (by rfl) T.g__law_draw T.F__law_draw.kp T.b__law_draw .nil pass0 (pa_cons (pv 1) (pa_cons pe_int pa_nil)))) pa_nil)) (pg_name (i := 7) sc_law.nd rfl (by first | exact Or.inl rfl | exact Or.inr rfl))
  (pss_cons (ps_set (i := 8) sc_law.nd rfl (by first | exact Or.inl rfl | exact Or.inr rfl) (pe_call (ok__law_draw T) (hr.mono (by decide)) (by rfl) T.g__law_draw T.F__law_draw.kp T.b__law_draw .nil pass0 (pa_cons (pv 1) (pa_cons pe_int pa_nil))))
  (pss_cons (ps_setLc (i := 9) (own := [("number", 10)]) (g := gName 10) rfl sc_law.nd rfl rfl (sw_true rfl rfl rfl (by decide +kernel)) (pi_range2 (by rfl) T.m_range (pa_cons pe_int (pa_cons pe_int pa_nil))) (blkOk_by (N := ["script", "state", "objects", "users", "stack", "numbers", "held", "k", "turn", "free", "number", "wanted", "item", "levels"]) (sc := defScope s_law) (by decide +kernel)) (fun _ _ _ _ _ => pg_name (i := 10) sc_law.nd rfl (Or.inl rfl)) (fun _ _ _ _ _ => pts_one (pw_and (pt_cmpR (show OpR _ (compareOp .NotIn) (rIn K true) from op_notIn_seq) (pv 10) (pv 5) (by with_unfolding_all rfl)) (pw_and1 (pt_cmpR op_gt (pv 10) (pe_meth0 (pv 4) T.cl_Stack T.m_Stack_level (ok_Stack_level T) (hr.mono (by decide)) T.b_Stack_level .nil pass0) (nomark _)))).pt) (fun _ _ _ _ _ => (pv 10)))
  (Evl.pss_cut (ps_set (i := 11) sc_law.nd rfl (by first | exact Or.inl rfl | exact Or.inr rfl) (pe_ifExp (pt_cmpR op_eq (pe_callB call_len_seq (by rfl) T.m_len PySem.boot_len (pa_cons (pv 5) pa_nil)) pe_int (nomark _)) (pe_lst pa_nil) (pe_lc (own := [("item", 12)]) (g := gName 12) rfl sc_law.nd (pi_list (pe_ix ix_list (pv 3) (pe_ix ix_list (pv 5) (pe_un un_neg pe_int) (fun _ _ => rfl)) (fun _ _ => rfl))) (blkOk_by (N := ["script", "state", "objects", "users", "stack", "numbers", "held", "k", "turn", "free", "number", "wanted", "item", "levels"]) (sc := defScope s_law) (by decide +kernel)) (fun _ _ _ _ _ => pg_name (i := 12) sc_law.nd rfl (Or.inl rfl)) (fun _ _ _ _ _ => pts_one (pt_cmpR (show OpR _ (compareOp .NotIn) (rIn K true) from op_notIn_seq) (pv 12) (pe_ix (r := rIxL K) ix_list (pv 6) (pe_un un_neg pe_int) (fun _ _ => rfl)) (by with_unfolding_all rfl))) (fun _ _ _ _ _ => (pv 12)))))
  (Evl.pss_cut (ps_if (pw_and (pt_cmpR op_eq (pv 8) pe_int (nomark _)) (pw_and1 (pt_cmpR op_gt (pe_callB call_len_seq (by rfl) T.m_len PySem.boot_len (pa_cons (pv 9) pa_nil)) pe_int (nomark _)))).pt
  (pss_cons (ps_expr (pe_bm PySem.F.plainAttrs_list PySem.F.slot_list_append PySem.F.type_list_append mt_append (pv 5) (pa_cons (pe_ix ix_list (pv 9) (pe_call (ok__law_draw T) (hr.mono (by decide)) (by rfl) T.g__law_draw T.F__law_draw.kp T.b__law_draw .nil pass0 (pa_cons (pv 1) (pa_cons (pe_callB call_len_seq (by rfl) T.m_len PySem.boot_len (pa_cons (pv 9) pa_nil)) pa_nil))) (fun _ _ => rfl)) pa_nil)))
  (pss_cons (ps_expr (pe_bm PySem.F.plainAttrs_list PySem.F.slot_list_append PySem.F.type_list_append mt_append (pv 6) (pa_cons (pe_lst pa_nil) pa_nil)))
  (pss_one (ps_expr (pe_meth (pv 4) T.cl_Stack T.m_Stack_push (ok_Stack_push T) (hr.mono (by decide)) T.b_Stack_push .nil pass0 (pa_cons (pe_ix ix_list (pv 5) (pe_un un_neg pe_int) (fun _ _ => rfl)) pa_nil))))))
  (pss_one (ps_if (pw_and (pt_cmpR op_in_seq (pv 8) (pe_tup (pa_cons pe_int (pa_cons pe_int pa_nil))) (by with_unfolding_all rfl)) (pw_and1 (pt_cmpR op_gt (pe_callB call_len_seq (by rfl) T.m_len PySem.boot_len (pa_cons (pv 11) pa_nil)) pe_int (nomark _)))).pt
  (pss_cons (ps_set (i := 12) sc_law.nd rfl (by first | exact Or.inl rfl | exact Or.inr rfl) (pe_ix ix_list (pv 11) (pe_call (ok__law_draw T) (hr.mono (by decide)) (by rfl) T.g__law_draw T.F__law_draw.kp T.b__law_draw .nil pass0 (pa_cons (pv 1) (pa_cons (pe_callB call_len_seq (by rfl) T.m_len PySem.boot_len (pa_cons (pv 11) pa_nil)) pa_nil))) (fun _ _ => rfl)))
  (pss_cons (ps_if (pt_cmpR op_isnot_bl (pe_meth (pv 4) T.cl_Stack T.m_Stack_enter_object (ok_Stack_enter_object T) (hr.mono (by decide)) T.b_Stack_enter_object .nil pass0 (pa_cons (pv 12) pa_nil)) pe_bl (nomark _))
  (pss_one (ps_ret pe_bl))
  pss_nil)
  (pss_one (ps_expr (pe_bm PySem.F.plainAttrs_list PySem.F.slot_list_append PySem.F.type_list_append mt_append (pe_ix ix_list (pv 6) (pe_un un_neg pe_int) (fun _ _ => rfl)) (pa_cons (pv 12) pa_nil))))))
  (pss_one (ps_if (pw_and (pt_cmpR op_gt (pe_callB call_len_seq (by rfl) T.m_len PySem.boot_len (pa_cons (pv 5) pa_nil)) pe_int (nomark _)) (pw_and1 (pt_cmpR op_gt (pe_callB call_len_seq (by rfl) T.m_len PySem.boot_len (pa_cons (pe_ix ix_list (pv 6) (pe_un un_neg pe_int) (fun _ _ => rfl)) pa_nil)) pe_int (nomark _)))).pt
  (pss_one (ps_if (pt_cmpR op_isnot_bl (pe_meth (pv 4) T.cl_Stack T.m_Stack_leave_object (ok_Stack_leave_object T) (hr.mono (by decide)) T.b_Stack_leave_object .nil pass0 (pa_cons (pe_bm0 PySem.F.plainAttrs_list PySem.F.slot_list_pop PySem.F.type_list_pop mt_pop (pe_ix ix_list (pv 6) (pe_un un_neg pe_int) (fun _ _ => rfl))) pa_nil)) pe_bl (nomark _))
  (pss_one (ps_ret pe_bl))
  pss_nil))
  (pss_one (ps_if (pt_cmpR op_gt (pe_callB call_len_seq (by rfl) T.m_len PySem.boot_len (pa_cons (pv 5) pa_nil)) pe_int (nomark _))
  (pss_cons (ps_if (pt_cmpR op_isnot_bl (pe_meth0 (pv 4) T.cl_Stack T.m_Stack_drop (ok_Stack_drop T) (hr.mono (by decide)) T.b_Stack_drop .nil pass0) pe_bl (nomark _))
  (pss_one (ps_ret pe_bl))
  pss_nil)
  (pss_cons (ps_expr (pe_bm0 PySem.F.plainAttrs_list PySem.F.slot_list_pop PySem.F.type_list_pop mt_pop (pv 5)))
  (pss_one (ps_expr (pe_bm0 PySem.F.plainAttrs_list PySem.F.slot_list_pop PySem.F.type_list_pop mt_pop (pv 6))))))
  pss_nil)))))))
  (pss_cons (ps_set (i := 13) sc_law.nd rfl (by first | exact Or.inl rfl | exact Or.inr rfl) (pe_meth0 (pv 4) T.cl_Stack T.m_Stack_levels (ok_Stack_levels T) (hr.mono (by decide)) T.b_Stack_levels .nil pass0))
  (pss_one (ps_if (pw_or (pt_cmpR op_ne (pe_callB call_len_seq (by rfl) T.m_len PySem.boot_len (pa_cons (pv 13) pa_nil)) (pe_callB call_len_seq (by rfl) T.m_len PySem.boot_len (pa_cons (pv 5) pa_nil)) (nomark _)) (pw_or (pt_not (pt_val (pe_call (ok__law_rising T) (hr.mono (by decide)) (by rfl) T.g__law_rising T.F__law_rising.kp T.b__law_rising .nil pass0 (pa_cons (pv 13) pa_nil)))) (pw_or1 (pt_cmpR op_ne (pe_meth0 (pv 4) T.cl_Stack T.m_Stack_top (ok_Stack_top T) (hr.mono (by decide)) T.b_Stack_top .nil pass0) (pe_callB (cr_max rfl) (by rfl) T.m_max (by decide +kernel) (pa_cons (pe_op op_cat (pe_lst (pa_cons pe_int pa_nil)) (pe_slice sl_list (pv 5) (po_some (pe_un un_neg pe_int)) po_none)) pa_nil)) (nomark _))))).pt
  (pss_one (ps_ret pe_bl))
  pss_nil))))))))
  (pss_one (ps_ret pe_bl))))))))), ?_⟩
    rw [show ∀ a0 : V, L2.start ["script", "state", "objects", "users", "stack", "numbers", "held", "k", "turn", "free", "number", "wanted", "item", "levels"] [a0] = [some a0, none, none, none, none, none, none, none, none, none, none, none, none, none] from fun _ => rfl]
    walk_at "my rn"
    refine ⟨l, ns, rfl, hS, hlen, fun H0 p c s0 np nc st0 => ?_⟩
    walk_at "my rn"
    refine ⟨p, c, _, rfl, st0, by decide, by decide, fun ob H1 ob0 ob1 st1 k1 => ?_⟩
    walk_at "my rn"
    refine ⟨p, c, _, rfl, st1, by omega, by omega, fun H2 W Ua uls us hu lu rg rl fW st2 k2 => ?_⟩
    have pne : ∀ b, W b → b ≠ p := fun b m z => by
      obtain ⟨ms, kk, v, sd, a, b', d, r⟩ := st1
      rw [← z, fW b m] at b'; cases b'
    walk_at "my rn"
    refine ⟨p, c, Ua, _, W, uls, us, rfl, st2, by omega, by omega, hu, lu, pne, fun H3 G cs nG hG lcs hcs st3 k3 => ?_⟩
    have hu3 := hu.keep fun b x m e => k3 b x (pne b m) e
    walk_at "my rn"
    intro o dx nO ndx dxo
    have oG : o ≠ G := fun z => by rw [z, hG] at nO; cases nO
    obtain ⟨H4, e4⟩ : ∃ H4, H4 = upd (upd H3 dx (.own o)) o (.ins T.C_Stack dx []) := ⟨_, rfl⟩
    rw [← e4]
    have s4 : Same H3 H4 := fun b x e => by
      rw [e4, upd_ne (fun z => by rw [z, nO] at e; cases e), upd_ne (fun z => by rw [z, ndx] at e; cases e)]
      exact e
    refine ⟨o, dx, G, cs, rfl, by rw [e4]; exact upd_same, s4 _ _ hG, by omega, fun H5 S hs kS lS => ⟨rfl, ?_⟩⟩
    have s35 : Same H3 H5 := fun b x e => kS b x (fun z => by rw [z, nO] at e; cases e) (s4 _ _ e)
    have st5 := st3.same s35
    have hu5 := hu3.keep fun b x _ e => s35 b x e
    have frS : ∀ b, S b → H3 b = none := fun b m => by
      rcases lS b m with rfl | z
      · exact nO
      · cases e : H3 b with
        | none => rfl
        | some x => rw [s4 b x e] at z; cases z
    have nS : ∀ b x, H3 b = some x → ¬ S b := fun b x e m => by rw [frS b m] at e; cases e
    walk_at "my rn"
    intro N H6 nN s6 hN
    walk_at "my rn"
    intro E' H7 nE s7 hE
    have s57 := s6.trans s7
    have NE : N ≠ E' := fun z => by rw [← z, hN] at nE; cases nE
    have iv7 : L5 T.C_Stack H7 p c o W S (fun b => b = N ∨ b = E') Ua uls us cs N E' [] [] [] [] [] 0 := by
      obtain ⟨ms, kk, v, sd, a, b, d, r⟩ := id st5
      obtain ⟨ms', kk', v', sd', a', b', d', r'⟩ := id st3
      have un : ∀ b x, H5 b = some x → ¬ (b = N ∨ b = E') := fun b x e m => by
        rcases m with m | m
        · rw [m, nN] at e; cases e
        · rw [m] at e; rw [s6 _ _ e] at nE; cases nE
      refine ⟨hs.keep (fun b x _ e => s57 b x e) (Nat.le_refl _), ⟨s7 _ _ hN, hE, rfl, rfl, by simp, by simp, NE, by simp, by simp, .inl rfl, .inr rfl, by simp, fun b m => ?_⟩, hu5.keep fun b x _ e => s57 b x e, st5.same s57, fun b m m2 => ?_, fun b m => ?_, fun b m => ?_, nS _ _ b', nS _ _ d', un _ _ b, un _ _ d, fun m => pne p m rfl⟩
      · rcases m with rfl | rfl
        · exact ⟨_, s7 _ _ hN⟩
        · exact ⟨_, hE⟩
      · obtain ⟨x, e⟩ := (let ⟨_, _, _, _, _, h⟩ := hs; h.live b m2)
        exact un b x e m
      · obtain ⟨x, e⟩ := hu3.live b m
        exact nS b x e
      · obtain ⟨x, e⟩ := hu5.live b m
        exact un b x e
    walk_at "my rn"
    refine ⟨p, c, _, rfl, iv7.st, by decide, by decide, fun m2 H8 m20 m21 st8 k8 => ?_⟩
    have iv8 := iv7.draw st8 k8
    walk_at "my rn"
    have csx : ∀ (k x : Int), 1 ≤ k → k ≤ 10 → x ∈ us.getD k.toNat [] → 0 ≤ x ∧ x < (cs.length : Int) ∧ k ≤ csAt cs x := fun k x h1 h2 hx => by
      have hm : us.getD k.toNat [] ∈ us := by
        rw [List.getD_eq_getElem?_getD, List.getElem?_eq_getElem (by omega)]
        exact List.getElem_mem _
      have := rg _ hm x hx
      exact ⟨this.1, by omega, hcs k x h1 h2 this.1 this.2 hx⟩
    refine ⟨by omega, by omega, for_it walk_range (fun i σ H' => ∃ (S U : Addr → Prop) (ls : List Addr) (ns : List Int) (es : List (List Int)) (y7 y8 y9 y10 y11 y12 y13 : Option V), σ = [some (.ref l), some (.ref p), some (.int (1 + ob)), some (.ref Ua), some (.ref o), some (.ref N), some (.ref E'), y7, y8, y9, y10, y11, y12, y13] ∧
      L5 T.C_Stack H' p c o W S U Ua uls us cs N E' ls ns es ns es i ∧ Ris cs us ns es) ⟨S, _, [], [], [], none, none, none, none, none, none, none, rfl, iv8, .nil⟩ (fun _ _ _ _ _ => trivial) ?_ ?_⟩
    · rintro i x σ H9 H9' hi ⟨S, U, ls, ns, es, y7, y8, y9, y10, y11, y12, y13, rfl, iv, hr⟩ yy
      obtain ⟨rfl, e3⟩ := Rd.zr yy
      subst e3
      walk_at "my rn"
      refine ⟨p, c, _, rfl, iv.st, by decide, by decide, fun tn H10 tn0 tn1 st10 k10 => ?_⟩
      have iv10 := iv.draw st10 k10
      have hN10 := iv10.ll.hN
      obtain ⟨dx', A', N', E2', ls', h0⟩ := id iv10.hs
      have h00 := h0.ob
      have fml : (sf A' N' E2').lookup ("level" : Str) = none := by with_unfolding_all rfl
      have fms : (sf A' N' E2').lookup ("levels" : Str) = none := by with_unfolding_all rfl
      have fmt : (sf A' N' E2').lookup ("top" : Str) = none := by with_unfolding_all rfl
      have fmp : (sf A' N' E2').lookup ("push" : Str) = none := by with_unfolding_all rfl
      have fmd : (sf A' N' E2').lookup ("drop" : Str) = none := by with_unfolding_all rfl
      have fmv : (sf A' N' E2').lookup ("leave_object" : Str) = none := by with_unfolding_all rfl
      have fme : (sf A' N' E2').lookup ("enter_object" : Str) = none := by with_unfolding_all rfl
      walk_at "my rn"
      refine ⟨by decide, ?_⟩
      intro F nF
      refine lc_some walk_range (fun v => 1 ≤ v ∧ v ≤ 10 ∧ topLev cs ns es < v) (fun _ _ => False) nF (by decide) (fun _ _ => trivial) (fun j x H4 H4' Kt Kn hj b yy kt kn => ?_) (fun H11 fr hfr _ lfr s11 hF => ?_)
      · obtain ⟨rfl, rfl⟩ := yy
        have hj2 : j < 10 := hj
        have s4' := b.to nF
        have hN4 := s4' _ _ hN10
        have h04 := s4' _ _ h00
        simp only [List.map_cons, List.map_nil, L2.wipe, List.set_cons_succ, List.set_cons_zero]
        walk_at "my rn"
        refine ⟨rfl, ?_⟩
        walk_at "my rn"
        refine Rd.ninI hN4 ?_
        walk_at "my rn"
        refine Rd.ifN (fun c1 => ?_) (fun c1 => ?_)
        · walk_at "my rn"
          refine ⟨o, S, cs, ns, es, i, rfl, iv10.hs.keep (fun b x _ e => s4' b x e) (Nat.le_refl _), by omega, fun H5 s5 => ?_⟩
          walk_at "my rn"
          refine Rd.ifD (fun c2 => ?_) (fun c2 => ?_)
          · walk_at "my rn"
            exact kt _ _ ⟨by omega, by omega, c2⟩ (fun u h => h.elim) s5
          · exact kn _ (fun u h => h) s5
        · walk_at "my rn"
          exact kn _ (fun u h => h) (Same.refl _)
      have iv11 := iv10.same s11
      have hN11 := s11 _ _ hN10
      walk_at "my rn"
      refine ⟨fun σ' H' => ∃ (wd : List Int) (Wd : Addr) (y12 : Option V), σ' = [some (.ref l), some (.ref p), some (.int (1 + ob)), some (.ref Ua), some (.ref o), some (.ref N), some (.ref E'), some (.int (i : Int)), some (.int tn), some (.ref F), y10, some (.ref Wd), y12, y13] ∧ Same H11 H' ∧ H' Wd = some (.lst (wd.map V.int)) ∧ wd.length ≤ 1000 ∧
        ∀ v ∈ wd, ∃ ns0 k es0 e, ns = ns0 ++ [k] ∧ es = es0 ++ [e] ∧ v ∈ us.getD k.toNat [] ∧ v ∉ e, ?_, ?_⟩
      · walk_at "my rn"
        refine Rd.ifD (fun c1 => ?_) (fun c1 => ?_)
        · walk_at "my rn"
          intro D H12 nD s12 hD
          walk_at "my rn"
          exact ⟨[], D, _, rfl, s12, hD, by simp, by simp⟩
        · have len := iv11.ll.len
          have lenN := iv11.ll.lenN
          rcases List.eq_nil_or_concat ns with rfl | ⟨ns0, k, rfl⟩
          · exact absurd rfl c1
          rcases List.eq_nil_or_concat es with rfl | ⟨es0, e, rfl⟩
          · simp at lenN
          rcases List.eq_nil_or_concat ls with rfl | ⟨ls0, le, rfl⟩
          · simp at len
          simp only [List.concat_eq_append] at *
          simp at len lenN
          obtain ⟨hr0, lt0, k1', k2', hx0⟩ := hr.inv
          have hA11 := iv11.uo.hA
          have hE11 := iv11.ll.hE
          have hrow := iv11.ll.row ls0.length le e (by simp) (by rw [List.getElem?_append_right (by omega)]; simp [len])
          rw [List.map_append, List.map_singleton] at hN11 hE11
          have luls := iv11.uo.len
          obtain ⟨lu2, hlu2⟩ : ∃ l2, uls[k.toNat]? = some l2 := ⟨_, List.getElem?_eq_getElem (by omega)⟩
          obtain ⟨ue, hue⟩ : ∃ ue, us[k.toNat]? = some ue := ⟨_, List.getElem?_eq_getElem (by omega)⟩
          have hrU := iv11.uo.row _ _ _ hlu2 hue
          have eu : us.getD k.toNat [] = ue := by rw [List.getD_eq_getElem?_getD, hue]; rfl
          walk_at "my rn"
          refine Rd.ixL hN11 (atI_last _ _) ?_
          refine Rd.ixL hA11 (Rd.at_val (j := k.toNat) (by omega) (by rw [List.getElem?_map, hlu2]; rfl)) ?_
          walk_at "my rn"
          intro D nD
          refine lc_some (walk_list (xs := ue.map V.int)) (fun v => v ∈ ue ∧ v ∉ e) (fun _ _ => False) nD (by have := rl ue (List.mem_of_getElem? hue); rw [List.length_map]; omega) (fun H b => (b.to nD).seq (SqL.of hrU)) (fun j x H4 H4' Kt Kn hj b yy kt kn => ?_) (fun H12 wd hwd _ lwd s12 hD => ?_)
          · obtain ⟨rfl, hx⟩ := yy
            rw [List.getElem?_map] at hx
            obtain ⟨v, hv, rfl⟩ : ∃ v, ue[j]? = some v ∧ V.int v = x := by
              cases z : ue[j]? with
              | none => rw [z] at hx; cases hx
              | some v => rw [z] at hx; exact ⟨v, rfl, Option.some.inj hx⟩
            have hE4 := (b.to nD) _ _ hE11
            have hr4 := (b.to nD) _ _ hrow
            simp only [List.map_cons, List.map_nil, L2.wipe, List.set_cons_succ, List.set_cons_zero]
            walk_at "my rn"
            refine ⟨rfl, ?_⟩
            walk_at "my rn"
            refine Rd.ixL hE4 (atI_last _ _) ?_
            refine Rd.ninI hr4 ?_
            walk_at "my rn"
            refine Rd.ifN (fun c2 => ?_) (fun c2 => ?_)
            · walk_at "my rn"
              exact kt _ _ ⟨List.mem_of_getElem? hv, c2⟩ (fun u h => h.elim) (Same.refl _)
            · exact kn _ (fun u h => h) (Same.refl _)
          · walk_at "my rn"
            exact ⟨wd, D, _, rfl, s12, hD, by have := rl ue (List.mem_of_getElem? hue); rw [List.length_map] at lwd; omega, fun v m => ⟨ns0, k, es0, e, rfl, rfl, by rw [eu]; exact (hwd v m).1, (hwd v m).2⟩⟩
      rintro σ' H12 ⟨wd, Wd, y12, rfl, s12, hWd, lwd, hwd⟩
      have iv12 := iv11.same s12
      have hF12 := s12 _ _ hF
      walk_at "my rn"
      refine ⟨fun σ' H' => ∃ (S U : Addr → Prop) (ls : List Addr) (ns : List Int) (es : List (List Int)) (y12 : Option V), σ' = [some (.ref l), some (.ref p), some (.int (1 + ob)), some (.ref Ua), some (.ref o), some (.ref N), some (.ref E'), some (.int (i : Int)), some (.int tn), some (.ref F), y10, some (.ref Wd), y12, y13] ∧
        L5 T.C_Stack H' p c o W S U Ua uls us cs N E' ls ns es ns es (i + 1) ∧ Ris cs us ns es, ?_, ?_⟩
      · have Fp : F ≠ p := (st10.ne nF).1
        have bn := h0.bn
        have lenN12 := iv12.ll.lenN
        have len12 := iv12.ll.len
        have h012 := s12 _ _ (s11 _ _ h00)
        have hN12 := iv12.ll.hN
        walk_at "my rn"
        refine Rd.ifD (fun c1 => ?_) (fun c1 => ?_)
        walk_at "my rn"
        refine Rd.ifD (fun c2 => ?_) (fun c2 => ?_)
        · rw [List.length_map] at c2
          walk_at "my rn"
          refine ⟨p, c, _, rfl, iv12.st, by rw [List.length_map]; omega, by rw [List.length_map]; have : fr.length ≤ (11 - 1 : Int).toNat := lfr; omega, fun ix H13 ix0 ix1 st13 k13 => ?_⟩
          rw [List.length_map] at ix1
          have iv13 := iv12.draw st13 k13
          have hF13 := k13 _ _ Fp hF12
          have hN13 := iv13.ll.hN
          have hE13 := iv13.ll.hE
          obtain ⟨x, hx⟩ : ∃ x, fr[ix.toNat]? = some x := ⟨_, List.getElem?_eq_getElem (by omega)⟩
          have px := hfr x (List.mem_of_getElem? hx)
          refine Rd.ixL hF13 (Rd.at_int (j := ix.toNat) (by omega) hx) ?_
          walk_at "my rn"
          refine Rd.app hN13 (Rd.szl (by rw [List.length_map]; omega)) ?_
          have NE' := iv13.ll.NE
          obtain ⟨H14, e14⟩ : ∃ H14, H14 = upd H13 N (.lst (ns.map V.int ++ [.int x])) := ⟨_, rfl⟩
          rw [← e14]
          have hE14 : H14 E' = some (.lst (ls.map V.ref)) := by rw [e14, upd_ne NE'.symm]; exact hE13
          have hN14 : H14 N = some (.lst (ns.map V.int ++ [.int x])) := by rw [e14]; exact upd_same
          walk_at "my rn"
          intro l2 H15 nl2 s15 hl2
          have hE15 := s15 _ _ hE14
          have nl0 : H13 l2 = none := by
            have lN : l2 ≠ N := fun z => by rw [z, hN14] at nl2; cases nl2
            rw [e14, upd_ne lN] at nl2
            exact nl2
          walk_at "my rn"
          refine Rd.app hE15 (Rd.szl (by rw [List.length_map]; omega)) ?_
          have lE : l2 ≠ E' := fun z => by rw [z, hE13] at nl0; cases nl0
          obtain ⟨H16, e16⟩ : ∃ H16, H16 = upd H15 E' (.lst (ls.map V.ref ++ [.ref l2])) := ⟨_, rfl⟩
          rw [← e16]
          have hN16 : H16 N = some (.lst (ns.map V.int ++ [.int x])) := by rw [e16, upd_ne NE']; exact s15 _ _ hN14
          have kp16 : ∀ b y, b ≠ N → b ≠ E' → H13 b = some y → H16 b = some y := fun b y n1 n2 e => by
            rw [e16, upd_ne n2]
            exact s15 _ _ (by rw [e14, upd_ne n1]; exact e)
          have ll16 := iv13.ll.push (H3 := H16) (k := x) (l := l2) (by rw [hN16, List.map_append]; rfl) (by rw [e16, upd_same, List.map_append]; rfl) (by rw [e16, upd_ne lE]; exact hl2) kp16 nl0
          have iv16 := iv13.job ll16 (fun b y nb e => kp16 b y (fun z => nb (by rw [z]; exact iv13.ll.uN)) (fun z => nb (by rw [z]; exact iv13.ll.uE)) e) fun b m => m.elim .inl fun z => .inr (by rw [z]; exact nl0)
          obtain ⟨dx2, A2, N2, E2, lz2, h2⟩ := id iv16.hs
          have h016 := h2.ob
          have fmp2 : (sf A2 N2 E2).lookup ("push" : Str) = none := by with_unfolding_all rfl
          walk_at "my rn"
          refine Rd.ixL hN16 (atI_last _ _) ?_
          walk_at "my rn"
          refine ⟨o, x, S, cs, ns, es, i, rfl, iv16.hs, by omega, fun H17 S' hs17 kp17 gr17 => ?_⟩
          have iv17 := iv16.stk hs17 kp17 gr17
          walk_at "my rn"
          exact ⟨S', _, _, _, _, _, rfl, iv17, .snoc hr px.2.2 px.1 px.2.1 (by simp)⟩
        all_goals
          walk_at "my rn"
          intro tp H13 ntp s13 htp
          have iv13 := iv12.same s13
          have hN13 := s13 _ _ hN12
          have h013 := s13 _ _ h012
          have hWd13 := s13 _ _ hWd
          refine inT (ns := [1, 2]) htp ?_
          walk_at "my rn"
          refine Rd.ifD (fun c3 => ?_) (fun c3 => ?_)
          walk_at "my rn"
          refine Rd.ifD (fun c4 => ?_) (fun c4 => ?_)
          · rw [List.length_map] at c4
            have Wp : Wd ≠ p := fun z => by
              have nW : H13 p ≠ none := by
                obtain ⟨ms, kk, v, sd, a, b', d, r⟩ := iv13.st
                rw [b']; simp
              obtain ⟨ms, kk, v, sd, a, b', d, r⟩ := iv13.st
              rw [z, b'] at hWd13
              have g := congrArg (fun z => match z with | some (HO.lst (V.ref _ :: _)) => true | _ => false) hWd13
              cases wd with
              | nil => simp at g
              | cons a r => simp at g
            walk_at "my rn"
            refine ⟨p, c, _, rfl, iv13.st, by rw [List.length_map]; omega, by rw [List.length_map]; omega, fun ix H14 ix0 ix1 st14 k14 => ?_⟩
            rw [List.length_map] at ix1
            have iv14 := iv13.draw st14 k14
            have hWd14 := k14 _ _ Wp hWd13
            obtain ⟨x, hx⟩ : ∃ x, wd[ix.toNat]? = some x := ⟨_, List.getElem?_eq_getElem (by omega)⟩
            obtain ⟨ns0, k, es0, e, rfl, rfl, px, nx⟩ := hwd x (List.mem_of_getElem? hx)
            obtain ⟨hr0, lt0, k1', k2', hx0⟩ := hr.inv
            obtain ⟨cx1, cx2, cx3⟩ := csx k x k1' k2' px
            have ctr : canE cs (es0 ++ [e]) x = true := by
              unfold canE
              rw [decide_eq_true cx1, decide_eq_true cx2]
              have : ((es0 ++ [e]).any fun e => decide (x ∈ e)) = false := by
                rw [List.any_eq_false]
                intro e' m
                rcases List.mem_append.mp m with m | m
                · intro z
                  have := hr0.all e' m x (of_decide_eq_true z)
                  omega
                · rw [List.mem_singleton.mp m]
                  simpa using nx
              rw [this]
              rfl
            refine Rd.ixL hWd14 (Rd.at_int (j := ix.toNat) (by omega) hx) ?_
            obtain ⟨dx2, A2, N2, E2, lz2, h2⟩ := id iv14.hs
            have h014 := h2.ob
            have fmp2 : (sf A2 N2 E2).lookup ("enter_object" : Str) = none := by with_unfolding_all rfl
            have be14 := h2.be e (by simp)
            walk_at "my rn"
            refine ⟨o, x, S, cs, _, es0, e, i, rfl, iv14.hs, by omega, (fun cf => by rw [ctr] at cf; cases cf), fun ct H15 hs15 kp15 => ?_⟩
            have iv15 := iv14.stk hs15 kp15 fun b m => .inl m
            have len15 := iv15.ll.len
            rcases List.eq_nil_or_concat ls with rfl | ⟨ls0, le, rfl⟩
            · simp at len15
            rw [List.concat_eq_append] at *
            simp at len15
            have hE15 := iv15.ll.hE
            have hrow15 := iv15.ll.row ls0.length le e (by simp) (by rw [List.getElem?_append_right (by omega)]; simp [len15])
            rw [List.map_append, List.map_singleton] at hE15
            refine ⟨_, _, rfl, rfl, ?_⟩
            rw [decide_eq_true rfl]
            walk_at "my rn"
            refine Rd.ixL hE15 (atI_last _ _) ?_
            walk_at "my rn"
            refine Rd.app hrow15 (Rd.szl (by rw [List.length_map]; omega)) ?_
            have ll16 := iv15.ll.put (H3 := upd H15 le (.lst (e.map V.int ++ [.int x]))) (e' := e ++ [x]) (by rw [upd_same, List.map_append]; rfl) (fun b y n z => by rw [upd_ne n]; exact z)
            have mle : le ∈ ls0 ++ [le] := List.mem_append_right _ (List.mem_singleton.mpr rfl)
            have iv16 := iv15.job ll16 (fun b y nb z => by
              have bJ : b ≠ le := fun w => nb (by rw [w]; exact iv15.ll.ul le mle)
              rw [upd_ne bJ]
              exact z) fun b m => .inl m
            walk_at "my rn"
            exact ⟨S, U, _, _, _, _, rfl, iv16, .snoc hr0 lt0 k1' k2' fun y m => (List.mem_append.mp m).elim (hx0 y) fun m => by rw [List.mem_singleton.mp m]; exact px⟩
          all_goals
            walk_at "my rn"
            refine Rd.ifD (fun c5 => ?_) (fun c5 => ?_)
            · rcases List.eq_nil_or_concat ns with rfl | ⟨ns0, k, rfl⟩
              · simp at c5
              rcases List.eq_nil_or_concat es with rfl | ⟨es0, e, rfl⟩
              · simp at lenN12
              rcases List.eq_nil_or_concat ls with rfl | ⟨ls0, le, rfl⟩
              · simp at len12
              simp only [List.concat_eq_append] at *
              simp at len12 lenN12
              obtain ⟨hr0, lt0, k1', k2', hx0⟩ := hr.inv
              have mle : le ∈ ls0 ++ [le] := List.mem_append_right _ (List.mem_singleton.mpr rfl)
              have hE13 := iv13.ll.hE
              have hrow13 := iv13.ll.row ls0.length le e (by simp) (by rw [List.getElem?_append_right (by omega)]; simp [len12])
              rw [List.map_append, List.map_singleton] at hE13
              have hN13b := hN13
              rw [List.map_append, List.map_singleton] at hN13b
              have leo : le ≠ o := fun z => by rw [z, h013] at hrow13; cases hrow13
              have leE : le ≠ E' := fun z => iv13.ll.nE (z ▸ mle)
              walk_at "my rn"
              refine Rd.ixL hE13 (atI_last _ _) ?_
              walk_at "my rn"
              refine Rd.ifD (fun c7 => ?_) (fun c7 => ?_)
              · rcases List.eq_nil_or_concat e with rfl | ⟨e0, x, rfl⟩
                · simp at c7
                simp only [List.concat_eq_append] at *
                have hrow13b := hrow13
                rw [List.map_append, List.map_singleton] at hrow13b
                walk_at "my rn"
                refine Rd.ixL hE13 (atI_last _ _) ?_
                walk_at "my rn"
                refine Rd.popI hrow13b (last_at _ _) ?_
                rw [List.dropLast_concat]
                have ll14 := iv13.ll.put (H3 := upd H13 le (.lst (e0.map V.int))) (e' := e0) upd_same (fun b y n z => by rw [upd_ne n]; exact z)
                have iv14 := iv13.job ll14 (fun b y nb z => by
                  have bJ : b ≠ le := fun w => nb (by rw [w]; exact iv13.ll.ul le mle)
                  rw [upd_ne bJ]
                  exact z) fun b m => .inl m
                walk_at "my rn"
                refine ⟨o, x, S, cs, _, es0, _, i, rfl, iv14.hs, by omega, fun ne => absurd (by simp) ne, fun eq H15 hs15 kp15 => ?_⟩
                have iv15 := iv14.stk hs15 kp15 fun b m => .inl m
                rw [List.dropLast_concat] at iv15
                refine ⟨_, _, rfl, rfl, ?_⟩
                rw [decide_eq_true rfl]
                walk_at "my rn"
                exact ⟨S, U, _, _, _, _, rfl, iv15, .snoc hr0 lt0 k1' k2' fun y m => hx0 y (List.mem_append_left _ m)⟩
              · have he : e = [] := by
                  cases e with
                  | nil => rfl
                  | cons a r => exact absurd (by simp) c7
                walk_at "my rn"
                refine Rd.ifD (fun c6 => ?_) (fun c6 => absurd (by first | (simp; done) | (simp; omega)) c6)
                walk_at "my rn"
                refine ⟨o, k, e, S, cs, ns0, es0, i, rfl, iv13.hs, fun H14 hs14 kp14 => ?_⟩
                have iv14 := iv13.stk hs14 kp14 fun b m => .inl m
                rw [decide_eq_true he]
                refine ⟨_, _, rfl, rfl, ?_⟩
                rw [decide_eq_true rfl]
                have hN14 := kp14 _ _ (iv13.us_ _ iv13.ll.uN) hN13b
                have hE14 := kp14 _ _ (iv13.us_ _ iv13.ll.uE) hE13
                walk_at "my rn"
                refine Rd.popI hN14 (last_at _ _) ?_
                rw [List.dropLast_concat]
                have NE' := iv13.ll.NE
                obtain ⟨H15, e15⟩ : ∃ H15, H15 = upd H14 N (.lst (ns0.map V.int)) := ⟨_, rfl⟩
                rw [← e15]
                have hE15 : H15 E' = some (.lst (ls0.map V.ref ++ [.ref le])) := by rw [e15, upd_ne NE'.symm]; exact hE14
                walk_at "my rn"
                refine Rd.popI hE15 (last_at _ _) ?_
                rw [List.dropLast_concat]
                have ll16 := iv14.ll.drop (H3 := upd H15 E' (.lst (ls0.map V.ref))) (by rw [upd_ne NE', e15]; exact upd_same) upd_same (fun b y n1 n2 z => by rw [upd_ne n2, e15, upd_ne n1]; exact z)
                have iv16 := iv14.job ll16 (fun b y nb z => by
                  have b1 : b ≠ N := fun w => nb (by rw [w]; exact iv14.ll.uN)
                  have b2 : b ≠ E' := fun w => nb (by rw [w]; exact iv14.ll.uE)
                  rw [upd_ne b2, e15, upd_ne b1]
                  exact z) fun b m => .inl m
                walk_at "my rn"
                exact ⟨S, U, _, _, _, _, rfl, iv16.le (Nat.le_succ _), hr0⟩
            · walk_at "my rn"
              refine Rd.ifD (fun c6 => absurd c6 c5) (fun c6 => ?_)
              walk_at "my rn"
              exact ⟨S, U, _, _, _, _, rfl, iv13.le (Nat.le_succ _), hr⟩
      · rintro σ' H13 ⟨S, U, ls, ns, es, y12, rfl, iv13, hr13⟩
        have hN13 := iv13.ll.hN
        obtain ⟨dx', A', N', E2', ls', h0⟩ := id iv13.hs
        have h00 := h0.ob
        have fms : (sf A' N' E2').lookup ("levels" : Str) = none := by with_unfolding_all rfl
        have fmt : (sf A' N' E2').lookup ("top" : Str) = none := by with_unfolding_all rfl
        obtain ⟨r1, r2, r3⟩ := hr13.rises
        have bn := h0.bn
        walk_at "my rn"
        refine ⟨o, S, cs, ns, es, _, rfl, iv13.hs, by omega, fun H14 D s14 nD hD => ?_⟩
        have hN14 := s14 _ _ hN13
        have h014 := s14 _ _ h00
        have iv14 := iv13.same s14
        walk_at "my rn"
        rw [List.length_map, List.length_map, List.length_map, List.length_zip, r1, Nat.min_self]
        rw [decide_eq_true rfl]
        walk_at "my rn"
        refine ⟨D, _, rfl, hD, by rw [List.length_map, List.length_zip]; omega, r3, ?_⟩
        walk_at "my rn"
        refine ⟨o, S, cs, ns, es, _, rfl, iv14.hs, ?_⟩
        walk_at "my rn"
        intro p1 H15 np1 s15 hp1
        have hN15 := s15 _ _ hN14
        walk_at "my rn"
        intro p2 H16 np2 s16 hp2
        rw [cut_last1] at hp2
        have hp16 := s16 _ _ hp1
        walk_at "my rn"
        refine Rd.cat hp16 hp2 (by simp; cases ns.getLast? <;> simp) fun Z H17 nZ s17 hZ => ?_
        have hZ2 : H17 Z = some (.lst (((0 : Int) :: ns.getLast?.toList).map V.int)) := hZ
        refine Rd.nil ?_
        refine Rd.maxL hZ2 (by simp) fun m m1 m2 => ?_
        have em : m = ns.getLastD 0 := by
          rcases List.eq_nil_or_concat ns with rfl | ⟨ns0, k, rfl⟩
          · simpa using m1
          · rw [List.concat_eq_append] at *
            have hes : es ≠ [] := fun z => by rw [z] at r1; simp at r1
            rcases List.eq_nil_or_concat es with rfl | ⟨es0, e, rfl⟩
            · exact absurd rfl hes
            rw [List.concat_eq_append] at hr13
            obtain ⟨_, _, k1', _⟩ := hr13.inv
            simp at m1 m2
            rw [List.getLastD_concat]
            omega
        rw [em]
        walk_at "my rn"
        rw [decide_eq_true rfl]
        refine Rd.ifnT ?_
        walk_at "my rn"
        exact ⟨S, U, ls, ns, es, _, _, _, _, _, _, _, rfl, iv14.same (s15.trans (s16.trans s17)), hr13⟩
    · rintro σ H9 ⟨S, U, ls, ns, es, y7, y8, y9, y10, y11, y12, y13, rfl, iv, hr⟩
      walk_at "my rn"
      exact q _
end

def top_mk {P : Program} {w : World} {K : PySem.W.Frag} {h : Heap} {mg : Str → Option Value} (X : K.In h) (G : h.Ns mainGlobals mg)
    {a__law_start : Addr} {od__law_start an__law_start : Option Addr} {sl__law_start : Array (Option Value)} {oc__law_start kV__law_start dc__law_start pm__law_start cd__law_start ct__law_start : Value}
    {a__law_draw : Addr} {od__law_draw an__law_draw : Option Addr} {sl__law_draw : Array (Option Value)} {oc__law_draw kV__law_draw dc__law_draw pm__law_draw cd__law_draw ct__law_draw : Value}
    {a_Stack_init : Addr} {od_Stack_init an_Stack_init : Option Addr} {sl_Stack_init : Array (Option Value)} {oc_Stack_init kV_Stack_init dc_Stack_init pm_Stack_init cd_Stack_init ct_Stack_init : Value}
    {a_Stack_top : Addr} {od_Stack_top an_Stack_top : Option Addr} {sl_Stack_top : Array (Option Value)} {oc_Stack_top kV_Stack_top dc_Stack_top pm_Stack_top cd_Stack_top ct_Stack_top : Value}
    {a_Stack_level_of : Addr} {od_Stack_level_of an_Stack_level_of : Option Addr} {sl_Stack_level_of : Array (Option Value)} {oc_Stack_level_of kV_Stack_level_of dc_Stack_level_of pm_Stack_level_of cd_Stack_level_of ct_Stack_level_of : Value}
    {a_Stack_level : Addr} {od_Stack_level an_Stack_level : Option Addr} {sl_Stack_level : Array (Option Value)} {oc_Stack_level kV_Stack_level dc_Stack_level pm_Stack_level cd_Stack_level ct_Stack_level : Value}
    {a_Stack_levels : Addr} {od_Stack_levels an_Stack_levels : Option Addr} {sl_Stack_levels : Array (Option Value)} {oc_Stack_levels kV_Stack_levels dc_Stack_levels pm_Stack_levels cd_Stack_levels ct_Stack_levels : Value}
    {a_Stack_push : Addr} {od_Stack_push an_Stack_push : Option Addr} {sl_Stack_push : Array (Option Value)} {oc_Stack_push kV_Stack_push dc_Stack_push pm_Stack_push cd_Stack_push ct_Stack_push : Value}
    {a_Stack_drop : Addr} {od_Stack_drop an_Stack_drop : Option Addr} {sl_Stack_drop : Array (Option Value)} {oc_Stack_drop kV_Stack_drop dc_Stack_drop pm_Stack_drop cd_Stack_drop ct_Stack_drop : Value}
    {a_Stack_can_enter : Addr} {od_Stack_can_enter an_Stack_can_enter : Option Addr} {sl_Stack_can_enter : Array (Option Value)} {oc_Stack_can_enter kV_Stack_can_enter dc_Stack_can_enter pm_Stack_can_enter cd_Stack_can_enter ct_Stack_can_enter : Value}
    {a_Stack_can_leave : Addr} {od_Stack_can_leave an_Stack_can_leave : Option Addr} {sl_Stack_can_leave : Array (Option Value)} {oc_Stack_can_leave kV_Stack_can_leave dc_Stack_can_leave pm_Stack_can_leave cd_Stack_can_leave ct_Stack_can_leave : Value}
    {a_Stack_enter_object : Addr} {od_Stack_enter_object an_Stack_enter_object : Option Addr} {sl_Stack_enter_object : Array (Option Value)} {oc_Stack_enter_object kV_Stack_enter_object dc_Stack_enter_object pm_Stack_enter_object cd_Stack_enter_object ct_Stack_enter_object : Value}
    {a_Stack_leave_object : Addr} {od_Stack_leave_object an_Stack_leave_object : Option Addr} {sl_Stack_leave_object : Array (Option Value)} {oc_Stack_leave_object kV_Stack_leave_object dc_Stack_leave_object pm_Stack_leave_object cd_Stack_leave_object ct_Stack_leave_object : Value}
    {a__law_rising : Addr} {od__law_rising an__law_rising : Option Addr} {sl__law_rising : Array (Option Value)} {oc__law_rising kV__law_rising dc__law_rising pm__law_rising cd__law_rising ct__law_rising : Value}
    {a__law_users : Addr} {od__law_users an__law_users : Option Addr} {sl__law_users : Array (Option Value)} {oc__law_users kV__law_users dc__law_users pm__law_users cd__law_users ct__law_users : Value}
    {a__law_ceilings : Addr} {od__law_ceilings an__law_ceilings : Option Addr} {sl__law_ceilings : Array (Option Value)} {oc__law_ceilings kV__law_ceilings dc__law_ceilings pm__law_ceilings cd__law_ceilings ct__law_ceilings : Value}
    {a_law : Addr} {od_law an_law : Option Addr} {sl_law : Array (Option Value)} {oc_law kV_law dc_law pm_law cd_law ct_law : Value}
    {C_Stack : Addr}
    (n__law_start : PySem.W.nsIn K mainGlobals "_law_start" = some (some (.ref a__law_start)))
    (n__law_draw : PySem.W.nsIn K mainGlobals "_law_draw" = some (some (.ref a__law_draw)))
    (n__law_rising : PySem.W.nsIn K mainGlobals "_law_rising" = some (some (.ref a__law_rising)))
    (n__law_users : PySem.W.nsIn K mainGlobals "_law_users" = some (some (.ref a__law_users)))
    (n__law_ceilings : PySem.W.nsIn K mainGlobals "_law_ceilings" = some (some (.ref a__law_ceilings)))
    (n_law : PySem.W.nsIn K mainGlobals "law" = some (some (.ref a_law)))
    (nc_Stack : PySem.W.nsIn K mainGlobals "Stack" = some (some (.ref C_Stack)))
    (l__law_start : K.lookup a__law_start = some ⟨oc__law_start, od__law_start, .func (PySem.W.fnOf "_law_start" "_law_start" (defArgs s__law_start) (defBody s__law_start) (defScope s__law_start) .none kV__law_start dc__law_start pm__law_start an__law_start cd__law_start ct__law_start), sl__law_start⟩)
    (c__law_start : PySem.W.codeIn K cd__law_start "_law_start" = true)
    (k__law_start : PySem.W.keepIn K (.ref a__law_start) = true)
    (l__law_draw : K.lookup a__law_draw = some ⟨oc__law_draw, od__law_draw, .func (PySem.W.fnOf "_law_draw" "_law_draw" (defArgs s__law_draw) (defBody s__law_draw) (defScope s__law_draw) .none kV__law_draw dc__law_draw pm__law_draw an__law_draw cd__law_draw ct__law_draw), sl__law_draw⟩)
    (c__law_draw : PySem.W.codeIn K cd__law_draw "_law_draw" = true)
    (k__law_draw : PySem.W.keepIn K (.ref a__law_draw) = true)
    (fi_Stack_init : PySem.W.findIn K (.ref C_Stack) "__init__" = some (some (.ref a_Stack_init)))
    (fn_Stack_init : PySem.W.isFn K (.ref a_Stack_init) = true)
    (l_Stack_init : K.lookup a_Stack_init = some ⟨oc_Stack_init, od_Stack_init, .func (PySem.W.fnOf "__init__" "Stack.__init__" (defArgs s_Stack_init) (defBody s_Stack_init) (defScope s_Stack_init) .none kV_Stack_init dc_Stack_init pm_Stack_init an_Stack_init cd_Stack_init ct_Stack_init), sl_Stack_init⟩)
    (c_Stack_init : PySem.W.codeIn K cd_Stack_init "Stack.__init__" = true)
    (k_Stack_init : PySem.W.keepIn K (.ref a_Stack_init) = true)
    (fi_Stack_top : PySem.W.findIn K (.ref C_Stack) "top" = some (some (.ref a_Stack_top)))
    (fn_Stack_top : PySem.W.isFn K (.ref a_Stack_top) = true)
    (l_Stack_top : K.lookup a_Stack_top = some ⟨oc_Stack_top, od_Stack_top, .func (PySem.W.fnOf "top" "Stack.top" (defArgs s_Stack_top) (defBody s_Stack_top) (defScope s_Stack_top) .none kV_Stack_top dc_Stack_top pm_Stack_top an_Stack_top cd_Stack_top ct_Stack_top), sl_Stack_top⟩)
    (c_Stack_top : PySem.W.codeIn K cd_Stack_top "Stack.top" = true)
    (k_Stack_top : PySem.W.keepIn K (.ref a_Stack_top) = true)
    (fi_Stack_level_of : PySem.W.findIn K (.ref C_Stack) "level_of" = some (some (.ref a_Stack_level_of)))
    (fn_Stack_level_of : PySem.W.isFn K (.ref a_Stack_level_of) = true)
    (l_Stack_level_of : K.lookup a_Stack_level_of = some ⟨oc_Stack_level_of, od_Stack_level_of, .func (PySem.W.fnOf "level_of" "Stack.level_of" (defArgs s_Stack_level_of) (defBody s_Stack_level_of) (defScope s_Stack_level_of) .none kV_Stack_level_of dc_Stack_level_of pm_Stack_level_of an_Stack_level_of cd_Stack_level_of ct_Stack_level_of), sl_Stack_level_of⟩)
    (c_Stack_level_of : PySem.W.codeIn K cd_Stack_level_of "Stack.level_of" = true)
    (k_Stack_level_of : PySem.W.keepIn K (.ref a_Stack_level_of) = true)
    (fi_Stack_level : PySem.W.findIn K (.ref C_Stack) "level" = some (some (.ref a_Stack_level)))
    (fn_Stack_level : PySem.W.isFn K (.ref a_Stack_level) = true)
    (l_Stack_level : K.lookup a_Stack_level = some ⟨oc_Stack_level, od_Stack_level, .func (PySem.W.fnOf "level" "Stack.level" (defArgs s_Stack_level) (defBody s_Stack_level) (defScope s_Stack_level) .none kV_Stack_level dc_Stack_level pm_Stack_level an_Stack_level cd_Stack_level ct_Stack_level), sl_Stack_level⟩)
    (c_Stack_level : PySem.W.codeIn K cd_Stack_level "Stack.level" = true)
    (k_Stack_level : PySem.W.keepIn K (.ref a_Stack_level) = true)
    (fi_Stack_levels : PySem.W.findIn K (.ref C_Stack) "levels" = some (some (.ref a_Stack_levels)))
    (fn_Stack_levels : PySem.W.isFn K (.ref a_Stack_levels) = true)
    (l_Stack_levels : K.lookup a_Stack_levels = some ⟨oc_Stack_levels, od_Stack_levels, .func (PySem.W.fnOf "levels" "Stack.levels" (defArgs s_Stack_levels) (defBody s_Stack_levels) (defScope s_Stack_levels) .none kV_Stack_levels dc_Stack_levels pm_Stack_levels an_Stack_levels cd_Stack_levels ct_Stack_levels), sl_Stack_levels⟩)
    (c_Stack_levels : PySem.W.codeIn K cd_Stack_levels "Stack.levels" = true)
    (k_Stack_levels : PySem.W.keepIn K (.ref a_Stack_levels) = true)
    (fi_Stack_push : PySem.W.findIn K (.ref C_Stack) "push" = some (some (.ref a_Stack_push)))
    (fn_Stack_push : PySem.W.isFn K (.ref a_Stack_push) = true)
    (l_Stack_push : K.lookup a_Stack_push = some ⟨oc_Stack_push, od_Stack_push, .func (PySem.W.fnOf "push" "Stack.push" (defArgs s_Stack_push) (defBody s_Stack_push) (defScope s_Stack_push) .none kV_Stack_push dc_Stack_push pm_Stack_push an_Stack_push cd_Stack_push ct_Stack_push), sl_Stack_push⟩)
    (c_Stack_push : PySem.W.codeIn K cd_Stack_push "Stack.push" = true)
    (k_Stack_push : PySem.W.keepIn K (.ref a_Stack_push) = true)
    (fi_Stack_drop : PySem.W.findIn K (.ref C_Stack) "drop" = some (some (.ref a_Stack_drop)))
    (fn_Stack_drop : PySem.W.isFn K (.ref a_Stack_drop) = true)
    (l_Stack_drop : K.lookup a_Stack_drop = some ⟨oc_Stack_drop, od_Stack_drop, .func (PySem.W.fnOf "drop" "Stack.drop" (defArgs s_Stack_drop) (defBody s_Stack_drop) (defScope s_Stack_drop) .none kV_Stack_drop dc_Stack_drop pm_Stack_drop an_Stack_drop cd_Stack_drop ct_Stack_drop), sl_Stack_drop⟩)
    (c_Stack_drop : PySem.W.codeIn K cd_Stack_drop "Stack.drop" = true)
    (k_Stack_drop : PySem.W.keepIn K (.ref a_Stack_drop) = true)
    (fi_Stack_can_enter : PySem.W.findIn K (.ref C_Stack) "can_enter" = some (some (.ref a_Stack_can_enter)))
    (fn_Stack_can_enter : PySem.W.isFn K (.ref a_Stack_can_enter) = true)
    (l_Stack_can_enter : K.lookup a_Stack_can_enter = some ⟨oc_Stack_can_enter, od_Stack_can_enter, .func (PySem.W.fnOf "can_enter" "Stack.can_enter" (defArgs s_Stack_can_enter) (defBody s_Stack_can_enter) (defScope s_Stack_can_enter) .none kV_Stack_can_enter dc_Stack_can_enter pm_Stack_can_enter an_Stack_can_enter cd_Stack_can_enter ct_Stack_can_enter), sl_Stack_can_enter⟩)
    (c_Stack_can_enter : PySem.W.codeIn K cd_Stack_can_enter "Stack.can_enter" = true)
    (k_Stack_can_enter : PySem.W.keepIn K (.ref a_Stack_can_enter) = true)
    (fi_Stack_can_leave : PySem.W.findIn K (.ref C_Stack) "can_leave" = some (some (.ref a_Stack_can_leave)))
    (fn_Stack_can_leave : PySem.W.isFn K (.ref a_Stack_can_leave) = true)
    (l_Stack_can_leave : K.lookup a_Stack_can_leave = some ⟨oc_Stack_can_leave, od_Stack_can_leave, .func (PySem.W.fnOf "can_leave" "Stack.can_leave" (defArgs s_Stack_can_leave) (defBody s_Stack_can_leave) (defScope s_Stack_can_leave) .none kV_Stack_can_leave dc_Stack_can_leave pm_Stack_can_leave an_Stack_can_leave cd_Stack_can_leave ct_Stack_can_leave), sl_Stack_can_leave⟩)
    (c_Stack_can_leave : PySem.W.codeIn K cd_Stack_can_leave "Stack.can_leave" = true)
    (k_Stack_can_leave : PySem.W.keepIn K (.ref a_Stack_can_leave) = true)
    (fi_Stack_enter_object : PySem.W.findIn K (.ref C_Stack) "enter_object" = some (some (.ref a_Stack_enter_object)))
    (fn_Stack_enter_object : PySem.W.isFn K (.ref a_Stack_enter_object) = true)
    (l_Stack_enter_object : K.lookup a_Stack_enter_object = some ⟨oc_Stack_enter_object, od_Stack_enter_object, .func (PySem.W.fnOf "enter_object" "Stack.enter_object" (defArgs s_Stack_enter_object) (defBody s_Stack_enter_object) (defScope s_Stack_enter_object) .none kV_Stack_enter_object dc_Stack_enter_object pm_Stack_enter_object an_Stack_enter_object cd_Stack_enter_object ct_Stack_enter_object), sl_Stack_enter_object⟩)
    (c_Stack_enter_object : PySem.W.codeIn K cd_Stack_enter_object "Stack.enter_object" = true)
    (k_Stack_enter_object : PySem.W.keepIn K (.ref a_Stack_enter_object) = true)
    (fi_Stack_leave_object : PySem.W.findIn K (.ref C_Stack) "leave_object" = some (some (.ref a_Stack_leave_object)))
    (fn_Stack_leave_object : PySem.W.isFn K (.ref a_Stack_leave_object) = true)
    (l_Stack_leave_object : K.lookup a_Stack_leave_object = some ⟨oc_Stack_leave_object, od_Stack_leave_object, .func (PySem.W.fnOf "leave_object" "Stack.leave_object" (defArgs s_Stack_leave_object) (defBody s_Stack_leave_object) (defScope s_Stack_leave_object) .none kV_Stack_leave_object dc_Stack_leave_object pm_Stack_leave_object an_Stack_leave_object cd_Stack_leave_object ct_Stack_leave_object), sl_Stack_leave_object⟩)
    (c_Stack_leave_object : PySem.W.codeIn K cd_Stack_leave_object "Stack.leave_object" = true)
    (k_Stack_leave_object : PySem.W.keepIn K (.ref a_Stack_leave_object) = true)
    (l__law_rising : K.lookup a__law_rising = some ⟨oc__law_rising, od__law_rising, .func (PySem.W.fnOf "_law_rising" "_law_rising" (defArgs s__law_rising) (defBody s__law_rising) (defScope s__law_rising) .none kV__law_rising dc__law_rising pm__law_rising an__law_rising cd__law_rising ct__law_rising), sl__law_rising⟩)
    (c__law_rising : PySem.W.codeIn K cd__law_rising "_law_rising" = true)
    (k__law_rising : PySem.W.keepIn K (.ref a__law_rising) = true)
    (l__law_users : K.lookup a__law_users = some ⟨oc__law_users, od__law_users, .func (PySem.W.fnOf "_law_users" "_law_users" (defArgs s__law_users) (defBody s__law_users) (defScope s__law_users) .none kV__law_users dc__law_users pm__law_users an__law_users cd__law_users ct__law_users), sl__law_users⟩)
    (c__law_users : PySem.W.codeIn K cd__law_users "_law_users" = true)
    (k__law_users : PySem.W.keepIn K (.ref a__law_users) = true)
    (l__law_ceilings : K.lookup a__law_ceilings = some ⟨oc__law_ceilings, od__law_ceilings, .func (PySem.W.fnOf "_law_ceilings" "_law_ceilings" (defArgs s__law_ceilings) (defBody s__law_ceilings) (defScope s__law_ceilings) .none kV__law_ceilings dc__law_ceilings pm__law_ceilings an__law_ceilings cd__law_ceilings ct__law_ceilings), sl__law_ceilings⟩)
    (c__law_ceilings : PySem.W.codeIn K cd__law_ceilings "_law_ceilings" = true)
    (k__law_ceilings : PySem.W.keepIn K (.ref a__law_ceilings) = true)
    (l_law : K.lookup a_law = some ⟨oc_law, od_law, .func (PySem.W.fnOf "law" "law" (defArgs s_law) (defBody s_law) (defScope s_law) .none kV_law dc_law pm_law an_law cd_law ct_law), sl_law⟩)
    (c_law : PySem.W.codeIn K cd_law "law" = true)
    (k_law : PySem.W.keepIn K (.ref a_law) = true)
    (kpg_Stack : PySem.W.plainGet K C_Stack Str.empty = true)
    (khd_Stack : PySem.W.hasDictIn K C_Stack = true)
    (kpo_Stack : PySem.W.plainOver K C_Stack = true)
    (ksa_Stack : PySem.W.findIn K (.ref C_Stack) "__setattr__" = some (some (.builtin "object.__setattr__")))
    (kmk_Stack : PySem.W.makesIn K C_Stack = true)
    (kkc_Stack : PySem.W.keepIn K (.ref C_Stack) = true)
    (kn_Stack_ceilings : PySem.W.findIn K (.ref C_Stack) "ceilings" = some none)
    (kn_Stack_entered : PySem.W.findIn K (.ref C_Stack) "entered" = some none)
    (kn_Stack_numbers : PySem.W.findIn K (.ref C_Stack) "numbers" = some none)
    (z_list : PySem.W.nsIn K mainGlobals "list" = some none)
    (z_int : PySem.W.nsIn K mainGlobals "int" = some none)
    (z_len : PySem.W.nsIn K mainGlobals "len" = some none)
    (z_abs : PySem.W.nsIn K mainGlobals "abs" = some none)
    (z_max : PySem.W.nsIn K mainGlobals "max" = some none)
    (z_zip : PySem.W.nsIn K mainGlobals "zip" = some none)
    (z_any : PySem.W.nsIn K mainGlobals "any" = some none)
    (z_range : PySem.W.nsIn K mainGlobals "range" = some none) :
    Top K mg :=
  { a__law_start := a__law_start,
    d__law_start := _,
    F__law_start := fun_mk (st := s__law_start) l__law_start c__law_start k__law_start,
    g__law_start := PySem.W.mg_of X G n__law_start,
    b__law_start := (fun_mk (st := s__law_start) l__law_start c__law_start k__law_start).binds (ps := ["script"]) fun _ _ _ _ _ _ us hl => match us, hl with | [_], _ => rfl,
    a__law_draw := a__law_draw,
    d__law_draw := _,
    F__law_draw := fun_mk (st := s__law_draw) l__law_draw c__law_draw k__law_draw,
    g__law_draw := PySem.W.mg_of X G n__law_draw,
    b__law_draw := (fun_mk (st := s__law_draw) l__law_draw c__law_draw k__law_draw).binds (ps := ["state", "many"]) fun _ _ _ _ _ _ us hl => match us, hl with | [_, _], _ => rfl,
    a_Stack_init := a_Stack_init,
    d_Stack_init := _,
    F_Stack_init := fun_mk (st := s_Stack_init) l_Stack_init c_Stack_init k_Stack_init,
    M_Stack := ⟨kmk_Stack, fi_Stack_init, fn_Stack_init, kkc_Stack⟩,
    b_Stack_init := (fun_mk (st := s_Stack_init) l_Stack_init c_Stack_init k_Stack_init).binds (ps := ["self", "ceilings"]) fun _ _ _ _ _ _ us hl => match us, hl with | [_, _], _ => rfl,
    a_Stack_top := a_Stack_top,
    d_Stack_top := _,
    F_Stack_top := fun_mk (st := s_Stack_top) l_Stack_top c_Stack_top k_Stack_top,
    m_Stack_top := ⟨fi_Stack_top, fn_Stack_top, k_Stack_top⟩,
    b_Stack_top := (fun_mk (st := s_Stack_top) l_Stack_top c_Stack_top k_Stack_top).binds (ps := ["self"]) fun _ _ _ _ _ _ us hl => match us, hl with | [_], _ => rfl,
    a_Stack_level_of := a_Stack_level_of,
    d_Stack_level_of := _,
    F_Stack_level_of := fun_mk (st := s_Stack_level_of) l_Stack_level_of c_Stack_level_of k_Stack_level_of,
    m_Stack_level_of := ⟨fi_Stack_level_of, fn_Stack_level_of, k_Stack_level_of⟩,
    b_Stack_level_of := (fun_mk (st := s_Stack_level_of) l_Stack_level_of c_Stack_level_of k_Stack_level_of).binds (ps := ["self", "number", "objects"]) fun _ _ _ _ _ _ us hl => match us, hl with | [_, _, _], _ => rfl,
    a_Stack_level := a_Stack_level,
    d_Stack_level := _,
    F_Stack_level := fun_mk (st := s_Stack_level) l_Stack_level c_Stack_level k_Stack_level,
    m_Stack_level := ⟨fi_Stack_level, fn_Stack_level, k_Stack_level⟩,
    b_Stack_level := (fun_mk (st := s_Stack_level) l_Stack_level c_Stack_level k_Stack_level).binds (ps := ["self"]) fun _ _ _ _ _ _ us hl => match us, hl with | [_], _ => rfl,
    a_Stack_levels := a_Stack_levels,
    d_Stack_levels := _,
    F_Stack_levels := fun_mk (st := s_Stack_levels) l_Stack_levels c_Stack_levels k_Stack_levels,
    m_Stack_levels := ⟨fi_Stack_levels, fn_Stack_levels, k_Stack_levels⟩,
    b_Stack_levels := (fun_mk (st := s_Stack_levels) l_Stack_levels c_Stack_levels k_Stack_levels).binds (ps := ["self"]) fun _ _ _ _ _ _ us hl => match us, hl with | [_], _ => rfl,
    a_Stack_push := a_Stack_push,
    d_Stack_push := _,
    F_Stack_push := fun_mk (st := s_Stack_push) l_Stack_push c_Stack_push k_Stack_push,
    m_Stack_push := ⟨fi_Stack_push, fn_Stack_push, k_Stack_push⟩,
    b_Stack_push := (fun_mk (st := s_Stack_push) l_Stack_push c_Stack_push k_Stack_push).binds (ps := ["self", "number"]) fun _ _ _ _ _ _ us hl => match us, hl with | [_, _], _ => rfl,
    a_Stack_drop := a_Stack_drop,
    d_Stack_drop := _,
    F_Stack_drop := fun_mk (st := s_Stack_drop) l_Stack_drop c_Stack_drop k_Stack_drop,
    m_Stack_drop := ⟨fi_Stack_drop, fn_Stack_drop, k_Stack_drop⟩,
    b_Stack_drop := (fun_mk (st := s_Stack_drop) l_Stack_drop c_Stack_drop k_Stack_drop).binds (ps := ["self"]) fun _ _ _ _ _ _ us hl => match us, hl with | [_], _ => rfl,
    a_Stack_can_enter := a_Stack_can_enter,
    d_Stack_can_enter := _,
    F_Stack_can_enter := fun_mk (st := s_Stack_can_enter) l_Stack_can_enter c_Stack_can_enter k_Stack_can_enter,
    m_Stack_can_enter := ⟨fi_Stack_can_enter, fn_Stack_can_enter, k_Stack_can_enter⟩,
    b_Stack_can_enter := (fun_mk (st := s_Stack_can_enter) l_Stack_can_enter c_Stack_can_enter k_Stack_can_enter).binds (ps := ["self", "item"]) fun _ _ _ _ _ _ us hl => match us, hl with | [_, _], _ => rfl,
    a_Stack_can_leave := a_Stack_can_leave,
    d_Stack_can_leave := _,
    F_Stack_can_leave := fun_mk (st := s_Stack_can_leave) l_Stack_can_leave c_Stack_can_leave k_Stack_can_leave,
    m_Stack_can_leave := ⟨fi_Stack_can_leave, fn_Stack_can_leave, k_Stack_can_leave⟩,
    b_Stack_can_leave := (fun_mk (st := s_Stack_can_leave) l_Stack_can_leave c_Stack_can_leave k_Stack_can_leave).binds (ps := ["self", "item"]) fun _ _ _ _ _ _ us hl => match us, hl with | [_, _], _ => rfl,
    a_Stack_enter_object := a_Stack_enter_object,
    d_Stack_enter_object := _,
    F_Stack_enter_object := fun_mk (st := s_Stack_enter_object) l_Stack_enter_object c_Stack_enter_object k_Stack_enter_object,
    m_Stack_enter_object := ⟨fi_Stack_enter_object, fn_Stack_enter_object, k_Stack_enter_object⟩,
    b_Stack_enter_object := (fun_mk (st := s_Stack_enter_object) l_Stack_enter_object c_Stack_enter_object k_Stack_enter_object).binds (ps := ["self", "item"]) fun _ _ _ _ _ _ us hl => match us, hl with | [_, _], _ => rfl,
    a_Stack_leave_object := a_Stack_leave_object,
    d_Stack_leave_object := _,
    F_Stack_leave_object := fun_mk (st := s_Stack_leave_object) l_Stack_leave_object c_Stack_leave_object k_Stack_leave_object,
    m_Stack_leave_object := ⟨fi_Stack_leave_object, fn_Stack_leave_object, k_Stack_leave_object⟩,
    b_Stack_leave_object := (fun_mk (st := s_Stack_leave_object) l_Stack_leave_object c_Stack_leave_object k_Stack_leave_object).binds (ps := ["self", "item"]) fun _ _ _ _ _ _ us hl => match us, hl with | [_, _], _ => rfl,
    a__law_rising := a__law_rising,
    d__law_rising := _,
    F__law_rising := fun_mk (st := s__law_rising) l__law_rising c__law_rising k__law_rising,
    g__law_rising := PySem.W.mg_of X G n__law_rising,
    b__law_rising := (fun_mk (st := s__law_rising) l__law_rising c__law_rising k__law_rising).binds (ps := ["levels"]) fun _ _ _ _ _ _ us hl => match us, hl with | [_], _ => rfl,
    a__law_users := a__law_users,
    d__law_users := _,
    F__law_users := fun_mk (st := s__law_users) l__law_users c__law_users k__law_users,
    g__law_users := PySem.W.mg_of X G n__law_users,
    b__law_users := (fun_mk (st := s__law_users) l__law_users c__law_users k__law_users).binds (ps := ["state", "objects"]) fun _ _ _ _ _ _ us hl => match us, hl with | [_, _], _ => rfl,
    a__law_ceilings := a__law_ceilings,
    d__law_ceilings := _,
    F__law_ceilings := fun_mk (st := s__law_ceilings) l__law_ceilings c__law_ceilings k__law_ceilings,
    g__law_ceilings := PySem.W.mg_of X G n__law_ceilings,
    b__law_ceilings := (fun_mk (st := s__law_ceilings) l__law_ceilings c__law_ceilings k__law_ceilings).binds (ps := ["state", "users", "objects"]) fun _ _ _ _ _ _ us hl => match us, hl with | [_, _, _], _ => rfl,
    a_law := a_law,
    d_law := _,
    F_law := fun_mk (st := s_law) l_law c_law k_law,
    g_law := PySem.W.mg_of X G n_law,
    b_law := (fun_mk (st := s_law) l_law c_law k_law).binds (ps := ["script"]) fun _ _ _ _ _ _ us hl => match us, hl with | [_], _ => rfl,
    C_Stack := C_Stack,
    gc_Stack := PySem.W.mg_of X G nc_Stack,
    cl_Stack := ⟨kpg_Stack, khd_Stack, kpo_Stack, ksa_Stack⟩,
    n_Stack_ceilings := kn_Stack_ceilings,
    n_Stack_entered := kn_Stack_entered,
    n_Stack_numbers := kn_Stack_numbers,
    m_list := PySem.W.mg_none_of X G z_list,
    m_int := PySem.W.mg_none_of X G z_int,
    m_len := PySem.W.mg_none_of X G z_len,
    m_abs := PySem.W.mg_none_of X G z_abs,
    m_max := PySem.W.mg_none_of X G z_max,
    m_zip := PySem.W.mg_none_of X G z_zip,
    m_any := PySem.W.mg_none_of X G z_any,
    m_range := PySem.W.mg_none_of X G z_range }
theorem all_mk {l : PySem.W.OpenLaw} {w : World} {K : PySem.W.Frag} {mg : Str → Option Value} {fa : Addr} (T : Top K mg) (hfa : mg "law" = some (.ref fa)) :
    ∃ fd : FuncData, (∀ (s : Shared) (v : Value), BindsTo s fd ⟨[v], []⟩ [("script", v)]) ∧ ∀ base : Heap, K.In base → base.Ns mainGlobals mg → FnOk l.prog w K mg base CX0 3 fa fd ["script"] (sp_law K) := by
  have e := hfa.symm.trans T.g_law
  cases e
  refine ⟨T.d_law, fun s v => ?_, fun base _ _ => ok_law T⟩
  obtain ⟨oc, od, kV, doc, pm, an, cdv, ct, osl, e, lk, hcd⟩ := T.F_law.ex
  rw [e]
  exact .of_eq rfl
end Mine
open PySem PySem.W PyProof.Rows
set_option maxHeartbeats 0 in
theorem PySem.Challenge.cw_deadbeat_k53_levels_rise_holds : PySem.Challenge.rw_deadbeat_k53_levels_rise.Holds := by
  w_on; o_law; k_head; (case hw => w_witness2)
  k_fill
  refine L2.walk_of (l := PySem.Challenge.rw_deadbeat_k53_levels_rise) (n := 63) (k := 3) (x := "script") (CX := fun _ => L2.CX0) (sp := fun w => Mine.sp_law _) rfl (by decide) rfl ⟨rfl, by decide, by decide⟩ (fun w h Y => PySem.W.kIn_of Y) ?F (fun _ _ a ns hl _ hS => ⟨a, ns, rfl, hS, hl, fun _ => rfl⟩) (fun _ _ _ _ _ h => h)
  case F =>
    intro w mg fa h KX G hmg
    refine' Mine.all_mk (Mine.top_mk (P := PySem.Challenge.rw_deadbeat_k53_levels_rise.prog) (w := w) KX G ?n__law_start ?n__law_draw ?n__law_rising ?n__law_users ?n__law_ceilings ?n_law ?nc_Stack ?l__law_start ?c__law_start ?k__law_start ?l__law_draw ?c__law_draw ?k__law_draw ?fi_Stack_init ?fn_Stack_init ?l_Stack_init ?c_Stack_init ?k_Stack_init ?fi_Stack_top ?fn_Stack_top ?l_Stack_top ?c_Stack_top ?k_Stack_top ?fi_Stack_level_of ?fn_Stack_level_of ?l_Stack_level_of ?c_Stack_level_of ?k_Stack_level_of ?fi_Stack_level ?fn_Stack_level ?l_Stack_level ?c_Stack_level ?k_Stack_level ?fi_Stack_levels ?fn_Stack_levels ?l_Stack_levels ?c_Stack_levels ?k_Stack_levels ?fi_Stack_push ?fn_Stack_push ?l_Stack_push ?c_Stack_push ?k_Stack_push ?fi_Stack_drop ?fn_Stack_drop ?l_Stack_drop ?c_Stack_drop ?k_Stack_drop ?fi_Stack_can_enter ?fn_Stack_can_enter ?l_Stack_can_enter ?c_Stack_can_enter ?k_Stack_can_enter ?fi_Stack_can_leave ?fn_Stack_can_leave ?l_Stack_can_leave ?c_Stack_can_leave ?k_Stack_can_leave ?fi_Stack_enter_object ?fn_Stack_enter_object ?l_Stack_enter_object ?c_Stack_enter_object ?k_Stack_enter_object ?fi_Stack_leave_object ?fn_Stack_leave_object ?l_Stack_leave_object ?c_Stack_leave_object ?k_Stack_leave_object ?l__law_rising ?c__law_rising ?k__law_rising ?l__law_users ?c__law_users ?k__law_users ?l__law_ceilings ?c__law_ceilings ?k__law_ceilings ?l_law ?c_law ?k_law ?kpg_Stack ?khd_Stack ?kpo_Stack ?ksa_Stack ?kmk_Stack ?kkc_Stack ?kn_Stack_ceilings ?kn_Stack_entered ?kn_Stack_numbers ?z_list ?z_int ?z_len ?z_abs ?z_max ?z_zip ?z_any ?z_range) hmg
    (case n__law_start => k_is); (case n__law_draw => k_is); (case n__law_rising => k_is); (case n__law_users => k_is); (case n__law_ceilings => k_is); (case n_law => k_is); (case nc_Stack => k_is); (case l__law_start => k_is); (case c__law_start => k_is); (case k__law_start => k_is); (case l__law_draw => k_is); (case c__law_draw => k_is); (case k__law_draw => k_is); (case fi_Stack_init => k_is); (case fn_Stack_init => k_is); (case l_Stack_init => k_is); (case c_Stack_init => k_is); (case k_Stack_init => k_is); (case fi_Stack_top => k_is); (case fn_Stack_top => k_is); (case l_Stack_top => k_is); (case c_Stack_top => k_is); (case k_Stack_top => k_is); (case fi_Stack_level_of => k_is); (case fn_Stack_level_of => k_is); (case l_Stack_level_of => k_is); (case c_Stack_level_of => k_is); (case k_Stack_level_of => k_is); (case fi_Stack_level => k_is); (case fn_Stack_level => k_is); (case l_Stack_level => k_is); (case c_Stack_level => k_is); (case k_Stack_level => k_is); (case fi_Stack_levels => k_is); (case fn_Stack_levels => k_is); (case l_Stack_levels => k_is); (case c_Stack_levels => k_is); (case k_Stack_levels => k_is); (case fi_Stack_push => k_is); (case fn_Stack_push => k_is); (case l_Stack_push => k_is); (case c_Stack_push => k_is); (case k_Stack_push => k_is); (case fi_Stack_drop => k_is); (case fn_Stack_drop => k_is); (case l_Stack_drop => k_is); (case c_Stack_drop => k_is); (case k_Stack_drop => k_is); (case fi_Stack_can_enter => k_is); (case fn_Stack_can_enter => k_is); (case l_Stack_can_enter => k_is); (case c_Stack_can_enter => k_is); (case k_Stack_can_enter => k_is); (case fi_Stack_can_leave => k_is); (case fn_Stack_can_leave => k_is); (case l_Stack_can_leave => k_is); (case c_Stack_can_leave => k_is); (case k_Stack_can_leave => k_is); (case fi_Stack_enter_object => k_is); (case fn_Stack_enter_object => k_is); (case l_Stack_enter_object => k_is); (case c_Stack_enter_object => k_is); (case k_Stack_enter_object => k_is); (case fi_Stack_leave_object => k_is); (case fn_Stack_leave_object => k_is); (case l_Stack_leave_object => k_is); (case c_Stack_leave_object => k_is); (case k_Stack_leave_object => k_is); (case l__law_rising => k_is); (case c__law_rising => k_is); (case k__law_rising => k_is); (case l__law_users => k_is); (case c__law_users => k_is); (case k__law_users => k_is); (case l__law_ceilings => k_is); (case c__law_ceilings => k_is); (case k__law_ceilings => k_is); (case l_law => k_is); (case c_law => k_is); (case k_law => k_is); (case kpg_Stack => k_is); (case khd_Stack => k_is); (case kpo_Stack => k_is); (case ksa_Stack => k_is); (case kmk_Stack => k_is); (case kkc_Stack => k_is); (case kn_Stack_ceilings => k_is); (case kn_Stack_entered => k_is); (case kn_Stack_numbers => k_is); (case z_list => k_is); (case z_int => k_is); (case z_len => k_is); (case z_abs => k_is); (case z_max => k_is); (case z_zip => k_is); (case z_any => k_is); (case z_range => k_is)
