import PyProof.Rows.All
import Wide.All
import OpenK.AllK
import Wide.FinOn
import PyProof.RulesMatch
import HandS.Base
import HandS.Call
import HandS.Words
import HandS.IsInst
import HandS.ForExc
import HandS.Zip
import HandS.Walk
import HandS.Strs
import HandS.ForMost
import HandS.Evl
import HandS.SortInts
import HandS.List
import HandS.RaiseMore
import PyProof.InstEq
import HandS.TupSets
import PyProof.EqKinds
import PyProof.NeKinds
import HandS.DictComp
import HandS.More
import KE.DatumOrd
import HandS.SortKw
import HandS.SetKeys
import HandS.SetFor
import HandS.RevRange
import KE.KDictZip
import KE.KDictItemsList
import HandS.ListItems
import HandS.Style
import HandS.TupLe
import HandS.TryOnly
import HandS.Ends
import PyProof.ReprRoads
import PySem.Challenge.RW_deadbeat_k11_values_of_expressions
import HandS.Wide
import HandS.WideBits
import HandS.StrMore
import HandS.IntHex
import HandS.ReSub
import HandS.Codes
import HandS.SortRule
import HandS.Deep
import HandS.DeepEq
import PyProof.StrLawsRepr
set_option Elab.async false
set_option linter.all false
set_option maxRecDepth 100000
namespace L2
open PySem PySem.Spec PyProof.Rows
/-- the cases of a match over texts: a written text or whatever is left, and what is done -/
def tCases (z : Str) : List (Option Str × TS) → TS
  | [] => fun D σ H => D.nx σ H
  | (none, t) :: _ => t
  | (some c, t) :: r => fun D σ H => if z = c then t D σ H else tCases z r D σ H
def tMatch (te : TE) (l : List (Option Str × TS)) : TS := fun D σ H => te σ H fun x H1 => ∃ z : Str, x = .str z ∧ tCases z l D σ H1
inductive PCs (X : Cx) : List MatchCase → List (Option Str × TS) → Prop
  | nil : PCs X [] []
  | rest {body : List Stmt} {t : TS} {p : Pos} {r : List MatchCase} : PSs X body t → PCs X (⟨.MatchAs none none p, none, body⟩ :: r) [(none, t)]
  | text {body : List Stmt} {t : TS} {c : Str} {j : Nat} {p p2 : Pos} {r : List MatchCase} {l : List (Option Str × TS)} : PSs X body t → PCs X r l →
      PCs X (⟨.MatchValue (.Constant (.str c) j p) p2, none, body⟩ :: r) ((some c, t) :: l)
theorem run_cases {X : Cx} {z : Str} {u : Value} (ru : RelV (.str z) u) : ∀ {cs : List MatchCase} {l : List (Option Str × TS)}, PCs X cs l → ∀ (first : Bool) (pins : List (Addr × Obj)) (s : Shared) (σ : St) (H : Hp) (D : Ends), Inv X pins σ H s → tCases z l D σ H →
    wpAny (model X.prog X.w) X.A (matchCases cs X.env u first) (SP X pins D) X.xe s
  | _, _, .nil, first, pins, s, σ, H, D, I, h => wpAny_matchCases_nil ⟨σ, H, I, h⟩
  | _, _, .rest hb, first, pins, s, σ, H, D, I, h => by
    refine wpAny_matchCases_cons (wpAny_matchPattern_Capture ?_)
    exact wpAny_assignInOrder_none (hb.run pins s σ H D I h)
  | _, _, .text (c := c) (l := l) hb hr, first, pins, s, σ, H, D, I, h => by
    refine wpAny_matchCases_cons (wpAny_matchPattern_Value ?_)
    refine thn ((pe_str (X := X) (x := c)).run pins s σ H (fun v H' => v = .str c ∧ H' = H) I ⟨rfl, rfl⟩) fun v s1 hh => ?_
    obtain ⟨x, H1, I1, rx, ex, eH⟩ := hh
    subst ex
    subst eH
    refine thn (op_eq pins s1 σ H1 (.str z) (.str c) u v (fun y H' => y = .bl (decide (V.str z = V.str c)) ∧ H' = H1) I1 ru rx ⟨rfl, rfl, rfl⟩) fun y s2 hh => ?_
    obtain ⟨x, H2, I2, rx2, ex, eH⟩ := hh
    subst ex
    subst eH
    cases rx2
    refine wpAny_truthy_bool ?_
    have h' : (if z = c then _ else _) := h
    by_cases e : z = c
    · rw [if_pos e] at h'
      rw [decide_eq_true (by rw [e])]
      exact wpAny_assignInOrder_none (hb.run pins s2 σ H2 D I2 h')
    · rw [if_neg e] at h'
      rw [decide_eq_false (fun q => e (by injection q))]
      exact run_cases ru hr false pins s2 σ H2 D I2 h'
theorem ps_match {X : Cx} {e : Expr} {te : TE} {cs : List MatchCase} {l : List (Option Str × TS)} {pos : Pos} (he : PE X e te) (hc : PCs X cs l) : PS X (.Match e cs pos) (tMatch te l) := by
  refine ⟨fun pins s σ H D I h => wpAny_Match ?_⟩
  refine thn (he.run pins s σ H _ I h) fun u s1 hh => ?_
  obtain ⟨x, H1, I1, rx, z, ez, hz⟩ := hh
  subst ez
  exact run_cases rx hc true pins s1 σ H1 D I1 hz
/-- a module's constant: an int, a text, an object -/
theorem pe_gi {X : Cx} {x : Str} {n : Int} {t : Tok} {pos : Pos} (hg : Gl X x) (hm : X.mg x = some (.int n t)) (hd : (x == ("__debug__" : Str)) = false := by decide) : PE X (.Name x pos) (tC (.int n)) := pe_glob hg hm ⟨_, rfl⟩ hd
theorem pe_gs {X : Cx} {x : Str} {z : Str} {t : Tok} {pos : Pos} (hg : Gl X x) (hm : X.mg x = some (.str z t)) (hd : (x == ("__debug__" : Str)) = false := by decide) : PE X (.Name x pos) (tC (.str z)) := pe_glob hg hm ⟨_, rfl⟩ hd
theorem pe_gr {X : Cx} {x : Str} {a : Addr} {pos : Pos} (hg : Gl X x) (hm : X.mg x = some (.ref a)) (hd : (x == ("__debug__" : Str)) = false := by decide) : PE X (.Name x pos) (tC (.ref a)) := pe_glob (v := .ref a) hg hm rfl hd
/-- a built-in type as a value -/
theorem pe_ty {X : Cx} {x : Str} {T : String} {pos : Pos} (hg : Gl X x) (hm : X.mg x = none) (hv : bootBuiltins x = some (.type T)) (hn : x ≠ "__name__" := by decide) (hd : (x == ("__debug__" : Str)) = false := by decide) : PE X (.Name x pos) (tC (.ty T)) :=
  ⟨fun _ s _ H _ I h => ld_blt I hg hm hv ⟨.ty T, H, I, rfl, h⟩ hn hd⟩
/-- isinstance of a plain value and a built-in type -/
theorem isi_int {K : PySem.W.Frag} {H : Hp} {Q : VK} {i : Int} (q : Q (.bl true) H) : rIsi K [.int i, .ty "int"] H Q := ⟨_, _, _, _, true, rfl, .ty _, .base (.int _), kit_ty (by decide +kernel), q⟩
theorem isi_int_bool {K : PySem.W.Frag} {H : Hp} {Q : VK} {i : Int} (q : Q (.bl false) H) : rIsi K [.int i, .ty "bool"] H Q := ⟨_, _, _, _, false, rfl, .ty _, .base (.int _), kit_ty (by decide +kernel), q⟩
theorem Same.none {H H' : Hp} (e : Same H H') {p : Addr} (h : H' p = Option.none) : H p = Option.none := Same.free e h
theorem same_new {H : Hp} {p : Addr} {o : HO} (h : H p = Option.none) : Same H (upd H p o) := fun b x e => by
  rw [upd_ne (ne_of_none e h)]
  exact e
theorem or_test {t u : TT} {σ : St} {H : Hp} {a b : Bool} {Q : Bool → Hp → Prop} (h1 : ∀ Q' : Bool → Hp → Prop, Q' a H → t σ H Q') (h2 : a = false → ∀ Q' : Bool → Hp → Prop, Q' b H → u σ H Q') (q : Q (a || b) H) : tOr t u σ H Q := by
  refine h1 _ ?_
  cases a with
  | true => exact iteT q
  | false => exact iteF (h2 rfl _ q)
theorem and_test {t u : TT} {σ : St} {H : Hp} {a b : Bool} {Q : Bool → Hp → Prop} (h1 : ∀ Q' : Bool → Hp → Prop, Q' a H → t σ H Q') (h2 : a = true → ∀ Q' : Bool → Hp → Prop, Q' b H → u σ H Q') (q : Q (a && b) H) : tAnd t u σ H Q := by
  refine h1 _ ?_
  cases a with
  | true => exact iteT (h2 rfl _ q)
  | false => exact iteF q
theorem if_or {t u : TT} {a b : Bool} {A B : TS} {D : Ends} {σ : St} {H : Hp} (h1 : ∀ Q' : Bool → Hp → Prop, Q' a H → t σ H Q') (h2 : a = false → ∀ Q' : Bool → Hp → Prop, Q' b H → u σ H Q') (q : if (a || b) = true then A D σ H else B D σ H) : tIfS (tOr t u) A B D σ H := or_test h1 h2 q
theorem if_and {t u : TT} {a b : Bool} {A B : TS} {D : Ends} {σ : St} {H : Hp} (h1 : ∀ Q' : Bool → Hp → Prop, Q' a H → t σ H Q') (h2 : a = true → ∀ Q' : Bool → Hp → Prop, Q' b H → u σ H Q') (q : if (a && b) = true then A D σ H else B D σ H) : tIfS (tAnd t u) A B D σ H := and_test h1 h2 q
theorem Same.off {H H1 : Hp} {D : Addr} {x : HO} (k : Same H H1) (n : H D = Option.none) : Same H (upd H1 D x) := fun b y e => by
  rw [upd_ne (ne_of_none e n)]
  exact k b y e
theorem Same.seqT {K : PySem.W.Frag} {H H' : Hp} {a : Addr} {xs : List V} (e : Same H H') (h : SqT K H a xs) : SqT K H' a xs := by
  rcases h with h | h
  · rcases h with h | ⟨o, h⟩
    · exact .inl (.inl (e _ _ h))
    · exact .inl (.inr ⟨o, e _ _ h⟩)
  · exact .inr h
/-- a def that may raise, called where it does not -/
theorem pass_no {X : Cx} : Passes (L2.CX X.prog X.w) X (fun _ _ _ => False) := fun _ _ _ _ _ _ _ c => by
  obtain ⟨_, _, _, _, _, _, _, _, _, _, _, _, z⟩ := c
  exact z.elim
def rListOf (K : PySem.W.Frag) : List V → Hp → VK → Prop := fun xs H Q => ∃ p ys, xs = [V.ref p] ∧ (SqL K H p ys ∨ SqT K H p ys) ∧ ∀ l, H l = Option.none → Q (.ref l) (upd H l (.lst ys))
theorem if_t {b : Bool} {A B : Prop} (h : b = true) (q : A) : if b = true then A else B := by
  rw [if_pos h]
  exact q
theorem if_f {b : Bool} {A B : Prop} (h : b = false) (q : B) : if b = true then A else B := by
  rw [if_neg (by rw [h]; exact Bool.noConfusion)]
  exact q
/-- a tuple of the written part, as it stands there -/
theorem sqT_lit {K : PySem.W.Frag} {p : Addr} {dd : Option Addr} {us : Array Value} {n : Nat} {sl : Array (Option Value)} {xs : List V} {H : Hp} (w : K.lookup p = some ⟨.type "tuple", dd, .seq us n, sl⟩) (y : Vals xs us.toList) (hl : xs.length ≤ sizeLine := by decide) : SqT K H p xs :=
  .inr ⟨_, us, n, w, rfl, rfl, Nat.le_trans (Nat.le_of_eq (by rw [← Array.length_toList]; exact (Paired.length y).symm)) hl, y⟩
end L2

set_option Elab.async false
set_option linter.all false
set_option maxRecDepth 100000
namespace Rd
open PySem PySem.Spec PyProof.Rows L2
variable {K : PySem.W.Frag} {σ : L2.St} {H : Hp} {D : Ends} {Q : VK} {ta tb te tc : TE} {t u c : TT} {ts tu : TS} {g : TG} {x y v : V} {vs : List V} {tr : TA} {a b : Option V} {r : L2.St}
theorem seq (h : ts { D with nx := tu D } σ H) : tSeq ts tu D σ H := h
theorem next (h : D.nx σ H) : tNext D σ H := h
theorem brk (h : D.bk σ H) : tBreak D σ H := h
theorem cont (h : D.ct σ H) : tCont D σ H := h
theorem asg (h : te σ H fun x H1 => g x σ H1 D.nx) : tAsg te g D σ H := h
theorem ret (h : te σ H D.rt) : tRet te D σ H := h
theorem retN (h : D.rt .non H) : tRetN D σ H := h
theorem drop (h : te σ H fun _ H1 => D.nx σ H1) : tDrop te D σ H := h
theorem ifs (h : c σ H fun b H1 => if b = true then ts D σ H1 else tu D σ H1) : tIfS c ts tu D σ H := h
theorem ife (h : t σ H fun b H1 => if b = true then ta σ H1 Q else tb σ H1 Q) : tIf t ta tb σ H Q := h
theorem test {Q : Bool → Hp → Prop} (h : te σ H fun x H1 => ∃ k, x = .bl k ∧ Q k H1) : tTest te σ H Q := h
theorem tb_ {Q : Bool → Hp → Prop} (h : te σ H fun x H1 => ∃ k, x = .bl k ∧ Q k H1) : tB te σ H Q := h
theorem bl {b : Bool} {Q : Bool → Hp → Prop} (h : Q b H) : ∃ k, V.bl b = .bl k ∧ Q k H := ⟨b, rfl, h⟩
theorem bl2 {b : Bool} {P : Bool → Prop} (h : P b) : ∃ k, V.bl b = .bl k ∧ P k := ⟨b, rfl, h⟩
theorem and_ {Q : Bool → Hp → Prop} (h : t σ H fun c H1 => if c = true then u σ H1 Q else Q false H1) : tAnd t u σ H Q := h
theorem or_ {Q : Bool → Hp → Prop} (h : t σ H fun c H1 => if c = true then Q true H1 else u σ H1 Q) : tOr t u σ H Q := h
theorem not_ {Q : Bool → Hp → Prop} (h : t σ H fun c H1 => Q (!c) H1) : tNot t σ H Q := h
theorem andV (h : ta σ H fun x H1 => ∃ c, x = .bl c ∧ if c = true then tb σ H1 Q else Q (.bl false) H1) : tAndV ta tb σ H Q := h
theorem orV (h : ta σ H fun x H1 => ∃ c, x = .bl c ∧ if c = true then Q (.bl true) H1 else tb σ H1 Q) : tOrV ta tb σ H Q := h
theorem notV (h : ta σ H fun x H1 => ∃ c, x = .bl c ∧ Q (.bl (!c)) H1) : tNotV ta σ H Q := h
theorem op {r : R2} (h : ta σ H fun x H1 => tb σ H1 fun y H2 => r x y H2 Q) : tOp r ta tb σ H Q := h
theorem un {r : V → Hp → VK → Prop} (h : ta σ H fun x H1 => r x H1 Q) : tUn r ta σ H Q := h
theorem I0 {f : Int → Int → V} {i j : Int} (h : Q (f i j) H) : rI0 f (.int i) (.int j) H Q := ⟨i, j, rfl, rfl, h⟩
theorem I {C : Int → Int → Prop} {f : Int → Int → V} {i j : Int} (c : C i j) (h : Q (f i j) H) : rI C f (.int i) (.int j) H Q := ⟨i, j, rfl, rfl, c, h⟩
theorem U {f : Int → V} {i : Int} (h : Q (f i) H) : rU f (.int i) H Q := ⟨i, rfl, h⟩
theorem ip {f : Int → Int → Int} {i j : Int} (h : Q (.int (f i j)) H) : ipI f (.int i) (.int j) H Q := ⟨i, j, rfl, rfl, h⟩
theorem eq (s : scal x y = true) (h : Q (.bl (decide (x = y))) H) : rEq x y H Q := ⟨s, h⟩
theorem ne (s : scal x y = true) (h : Q (.bl (!decide (x = y))) H) : rNe x y H Q := ⟨s, h⟩
theorem c_ (h : Q v H) : tC v σ H Q := h
theorem nil {Q : List V → Hp → Prop} (h : Q [] H) : tNil σ H Q := h
theorem cons {Q : List V → Hp → Prop} (h : ta σ H fun x H1 => tr σ H1 fun xs H2 => Q (x :: xs) H2) : tCons ta tr σ H Q := h
theorem tup (h : tr σ H fun xs H1 => xs.length ≤ sizeLine ∧ ∀ p, H1 p = none → Q (.ref p) (upd H1 p (.tup xs))) : tTup tr σ H Q := h
theorem lst (h : tr σ H fun xs H1 => xs.length ≤ sizeLine ∧ ∀ p, H1 p = none → Q (.ref p) (upd H1 p (.lst xs))) : tLst tr σ H Q := h
theorem newT {xs : List V} (s : xs.length ≤ sizeLine) (h : ∀ p, H p = none → Q (.ref p) (upd H p (.tup xs))) : xs.length ≤ sizeLine ∧ ∀ p, H p = none → Q (.ref p) (upd H p (.tup xs)) := ⟨s, h⟩
theorem newL {xs : List V} (s : xs.length ≤ sizeLine) (h : ∀ p, H p = none → Q (.ref p) (upd H p (.lst xs))) : xs.length ≤ sizeLine ∧ ∀ p, H p = none → Q (.ref p) (upd H p (.lst xs)) := ⟨s, h⟩
theorem szA {xs : List V} {A : Prop} (s : xs.length ≤ sizeLine) (h : A) : xs.length ≤ sizeLine ∧ A := ⟨s, h⟩
theorem call {sp : Sp} {dvs : List V} {E : XK} (h : tr σ H fun vs H1 => sp (vs ++ dvs) H1 Q E) : tCall sp dvs E tr σ H Q := h
theorem cb {f : List V → Hp → VK → Prop} (h : tr σ H fun vs H1 => f vs H1 Q) : tCB f tr σ H Q := h
theorem bm {T : String} {f : V → List V → Hp → VK → Prop} (h : te σ H fun x H1 => tyV K T x H1 ∧ tr σ H1 fun xs H2 => f x xs H2 Q) : tBM K T f te tr σ H Q := h
theorem bm0 {T : String} {f : V → List V → Hp → VK → Prop} (h : te σ H fun x H1 => tyV K T x H1 ∧ f x [] H1 Q) : tBM0 K T f te σ H Q := h
theorem tyL {p : Addr} {xs : List V} {A : Prop} (s : H p = some (.lst xs)) (h : A) : tyV K "list" (.ref p) H ∧ A := ⟨.inl ⟨rfl, _, SqL.of s⟩, h⟩
theorem tyLq {p : Addr} {xs : List V} {A : Prop} (s : SqL K H p xs) (h : A) : tyV K "list" (.ref p) H ∧ A := ⟨.inl ⟨rfl, _, s⟩, h⟩
theorem tyS {z : Str} {A : Prop} (h : A) : tyV K "str" (.str z) H ∧ A := ⟨rfl, h⟩
theorem app {l : Addr} {xs : List V} (h : H l = some (.lst xs)) (s : xs.length < sizeLine) (q : Q .non (upd H l (.lst (xs ++ [y])))) : rAppend (.ref l) [y] H Q := ⟨l, xs, y, rfl, rfl, h, s, q⟩
theorem sl {f : V → Option Int → Option Int → Hp → VK → Prop} {tl th : TO} (h : te σ H fun x H1 => tl σ H1 fun l H2 => th σ H2 fun u H3 => f x l u H3 Q) : L2.tSl f te tl th σ H Q := h
theorem nopart {Q : Option Int → Hp → Prop} (h : Q none H) : tNoPart σ H Q := h
theorem part {Q : Option Int → Hp → Prop} (h : te σ H fun x H1 => ∃ i, x = .int i ∧ Q (some i) H1) : tPart te σ H Q := h
theorem int1 {i : Int} {P : Int → Prop} (h : P i) : ∃ j, V.int i = .int j ∧ P j := ⟨i, rfl, h⟩
theorem ints1 {i : Int} {P : Int → Prop} (h : P i) : ∃ j, [V.int i] = [.int j] ∧ P j := ⟨i, rfl, h⟩
theorem ints2 {i j : Int} {P : Int → Int → Prop} (h : P i j) : ∃ a b, [V.int i, V.int j] = [.int a, .int b] ∧ P a b := ⟨i, j, rfl, h⟩
theorem ixLq {p : Addr} {xs : List V} {i : Int} (h : SqL K H p xs) (e : atI xs i = some v) (q : Q v H) : rIxL K (.ref p) (.int i) H Q := ⟨p, xs, i, v, rfl, rfl, h, e, q⟩
theorem ixL {p : Addr} {xs : List V} {i : Int} (h : H p = some (.lst xs)) (e : atI xs i = some v) (q : Q v H) : rIxL K (.ref p) (.int i) H Q := ⟨p, xs, i, v, rfl, rfl, SqL.of h, e, q⟩
theorem ixT {p : Addr} {xs : List V} {i : Int} (h : H p = some (.tup xs)) (e : atI xs i = some v) (q : Q v H) : rIxT K (.ref p) (.int i) H Q := ⟨p, xs, i, v, rfl, rfl, SqT.of h, e, q⟩
theorem ixTq {p : Addr} {xs : List V} {i : Int} (h : SqT K H p xs) (e : atI xs i = some v) (q : Q v H) : rIxT K (.ref p) (.int i) H Q := ⟨p, xs, i, v, rfl, rfl, h, e, q⟩
theorem gtup {p : Addr} {xs : List V} {n : Nat} {f : TGs} {Q : L2.St → Hp → Prop} (h : H p = some (.tup xs)) (l : xs.length = n) (q : f xs σ H Q) : gTup K n f (.ref p) σ H Q := ⟨p, xs, rfl, SqT.of h, l, q⟩
theorem gtupq {p : Addr} {xs : List V} {n : Nat} {f : TGs} {Q : L2.St → Hp → Prop} (h : SqT K H p xs) (l : xs.length = n) (q : f xs σ H Q) : gTup K n f (.ref p) σ H Q := ⟨p, xs, rfl, h, l, q⟩
theorem yes {Q : Bool → Hp → Prop} (h : Q true H) : tYes σ H Q := h
theorem gcons {f : TGs} {Q : L2.St → Hp → Prop} (q : g v σ H fun σ' H' => f vs σ' H' Q) : gCons g f (v :: vs) σ H Q := ⟨v, vs, rfl, q⟩
theorem gnil {Q : L2.St → Hp → Prop} (q : Q σ H) : gNil [] σ H Q := ⟨rfl, q⟩
theorem sub {to ti : TE} {f : TSet} {Q : L2.St → Hp → Prop} (h : to σ H fun o H1 => ti σ H1 fun i H2 => f o i v H2 fun H3 => Q σ H3) : gSub to ti f v σ H Q := h
theorem setL {l : Addr} {xs : List V} {j : Nat} {i : Int} {Q : Hp → Prop} (h : H l = some (.lst xs)) (e : ixN xs.length i = some j) (q : Q (upd H l (.lst (xs.set j v)))) : rSetL (.ref l) (.int i) v H Q := ⟨l, xs, i, j, rfl, rfl, h, e, q⟩
theorem isN (h : ta σ H fun x H1 => Q (.bl (decide (x = .non))) H1) : tIsN ta σ H Q := h
theorem rf {α : Type} {a : α} {A : Prop} (h : A) : a = a ∧ A := ⟨rfl, h⟩
theorem sz {n : Nat} (h : n ≤ 100000) : n ≤ sizeLine := Nat.le_trans h (by decide)
theorem szl {n : Nat} (h : n < 100000) : n < sizeLine := Nat.lt_of_lt_of_le h (by decide)
theorem chain {r r' : R2} (h : ta σ H fun x H1 => tb σ H1 fun y H2 => r x y H2 fun z H3 => ∃ k, z = .bl k ∧ if k = true then tc σ H3 fun w H4 => r' y w H4 Q else Q (.bl false) H3) : tChain r r' ta tb tc σ H Q := h

theorem v0 (h : Q v H) : tVar 0 (some v :: r) H Q := ⟨v, rfl, h⟩
theorem n0 {Q : L2.St → Hp → Prop} (h : Q (some v :: r) H) : gName 0 v (a :: r) H Q := h
theorem g0 {ti : TIp} (h : te (some x :: r) H fun y H1 => ti x y H1 fun z H2 => D.nx (some z :: r) H2) : tAug 0 te ti D (some x :: r) H := ⟨x, rfl, h⟩
theorem v1 {a0 : Option V} (h : Q v H) : tVar 1 (a0 :: some v :: r) H Q := ⟨v, rfl, h⟩
theorem n1 {a0 : Option V} {Q : L2.St → Hp → Prop} (h : Q (a0 :: some v :: r) H) : gName 1 v (a0 :: a :: r) H Q := h
theorem g1 {a0 : Option V} {ti : TIp} (h : te (a0 :: some x :: r) H fun y H1 => ti x y H1 fun z H2 => D.nx (a0 :: some z :: r) H2) : tAug 1 te ti D (a0 :: some x :: r) H := ⟨x, rfl, h⟩
theorem v2 {a0 a1 : Option V} (h : Q v H) : tVar 2 (a0 :: a1 :: some v :: r) H Q := ⟨v, rfl, h⟩
theorem n2 {a0 a1 : Option V} {Q : L2.St → Hp → Prop} (h : Q (a0 :: a1 :: some v :: r) H) : gName 2 v (a0 :: a1 :: a :: r) H Q := h
theorem g2 {a0 a1 : Option V} {ti : TIp} (h : te (a0 :: a1 :: some x :: r) H fun y H1 => ti x y H1 fun z H2 => D.nx (a0 :: a1 :: some z :: r) H2) : tAug 2 te ti D (a0 :: a1 :: some x :: r) H := ⟨x, rfl, h⟩
theorem v3 {a0 a1 a2 : Option V} (h : Q v H) : tVar 3 (a0 :: a1 :: a2 :: some v :: r) H Q := ⟨v, rfl, h⟩
theorem n3 {a0 a1 a2 : Option V} {Q : L2.St → Hp → Prop} (h : Q (a0 :: a1 :: a2 :: some v :: r) H) : gName 3 v (a0 :: a1 :: a2 :: a :: r) H Q := h
theorem g3 {a0 a1 a2 : Option V} {ti : TIp} (h : te (a0 :: a1 :: a2 :: some x :: r) H fun y H1 => ti x y H1 fun z H2 => D.nx (a0 :: a1 :: a2 :: some z :: r) H2) : tAug 3 te ti D (a0 :: a1 :: a2 :: some x :: r) H := ⟨x, rfl, h⟩
theorem v4 {a0 a1 a2 a3 : Option V} (h : Q v H) : tVar 4 (a0 :: a1 :: a2 :: a3 :: some v :: r) H Q := ⟨v, rfl, h⟩
theorem n4 {a0 a1 a2 a3 : Option V} {Q : L2.St → Hp → Prop} (h : Q (a0 :: a1 :: a2 :: a3 :: some v :: r) H) : gName 4 v (a0 :: a1 :: a2 :: a3 :: a :: r) H Q := h
theorem g4 {a0 a1 a2 a3 : Option V} {ti : TIp} (h : te (a0 :: a1 :: a2 :: a3 :: some x :: r) H fun y H1 => ti x y H1 fun z H2 => D.nx (a0 :: a1 :: a2 :: a3 :: some z :: r) H2) : tAug 4 te ti D (a0 :: a1 :: a2 :: a3 :: some x :: r) H := ⟨x, rfl, h⟩
theorem v5 {a0 a1 a2 a3 a4 : Option V} (h : Q v H) : tVar 5 (a0 :: a1 :: a2 :: a3 :: a4 :: some v :: r) H Q := ⟨v, rfl, h⟩
theorem n5 {a0 a1 a2 a3 a4 : Option V} {Q : L2.St → Hp → Prop} (h : Q (a0 :: a1 :: a2 :: a3 :: a4 :: some v :: r) H) : gName 5 v (a0 :: a1 :: a2 :: a3 :: a4 :: a :: r) H Q := h
theorem g5 {a0 a1 a2 a3 a4 : Option V} {ti : TIp} (h : te (a0 :: a1 :: a2 :: a3 :: a4 :: some x :: r) H fun y H1 => ti x y H1 fun z H2 => D.nx (a0 :: a1 :: a2 :: a3 :: a4 :: some z :: r) H2) : tAug 5 te ti D (a0 :: a1 :: a2 :: a3 :: a4 :: some x :: r) H := ⟨x, rfl, h⟩
theorem v6 {a0 a1 a2 a3 a4 a5 : Option V} (h : Q v H) : tVar 6 (a0 :: a1 :: a2 :: a3 :: a4 :: a5 :: some v :: r) H Q := ⟨v, rfl, h⟩
theorem n6 {a0 a1 a2 a3 a4 a5 : Option V} {Q : L2.St → Hp → Prop} (h : Q (a0 :: a1 :: a2 :: a3 :: a4 :: a5 :: some v :: r) H) : gName 6 v (a0 :: a1 :: a2 :: a3 :: a4 :: a5 :: a :: r) H Q := h
theorem g6 {a0 a1 a2 a3 a4 a5 : Option V} {ti : TIp} (h : te (a0 :: a1 :: a2 :: a3 :: a4 :: a5 :: some x :: r) H fun y H1 => ti x y H1 fun z H2 => D.nx (a0 :: a1 :: a2 :: a3 :: a4 :: a5 :: some z :: r) H2) : tAug 6 te ti D (a0 :: a1 :: a2 :: a3 :: a4 :: a5 :: some x :: r) H := ⟨x, rfl, h⟩
theorem v7 {a0 a1 a2 a3 a4 a5 a6 : Option V} (h : Q v H) : tVar 7 (a0 :: a1 :: a2 :: a3 :: a4 :: a5 :: a6 :: some v :: r) H Q := ⟨v, rfl, h⟩
theorem n7 {a0 a1 a2 a3 a4 a5 a6 : Option V} {Q : L2.St → Hp → Prop} (h : Q (a0 :: a1 :: a2 :: a3 :: a4 :: a5 :: a6 :: some v :: r) H) : gName 7 v (a0 :: a1 :: a2 :: a3 :: a4 :: a5 :: a6 :: a :: r) H Q := h
theorem g7 {a0 a1 a2 a3 a4 a5 a6 : Option V} {ti : TIp} (h : te (a0 :: a1 :: a2 :: a3 :: a4 :: a5 :: a6 :: some x :: r) H fun y H1 => ti x y H1 fun z H2 => D.nx (a0 :: a1 :: a2 :: a3 :: a4 :: a5 :: a6 :: some z :: r) H2) : tAug 7 te ti D (a0 :: a1 :: a2 :: a3 :: a4 :: a5 :: a6 :: some x :: r) H := ⟨x, rfl, h⟩
theorem v8 {a0 a1 a2 a3 a4 a5 a6 a7 : Option V} (h : Q v H) : tVar 8 (a0 :: a1 :: a2 :: a3 :: a4 :: a5 :: a6 :: a7 :: some v :: r) H Q := ⟨v, rfl, h⟩
theorem n8 {a0 a1 a2 a3 a4 a5 a6 a7 : Option V} {Q : L2.St → Hp → Prop} (h : Q (a0 :: a1 :: a2 :: a3 :: a4 :: a5 :: a6 :: a7 :: some v :: r) H) : gName 8 v (a0 :: a1 :: a2 :: a3 :: a4 :: a5 :: a6 :: a7 :: a :: r) H Q := h
theorem g8 {a0 a1 a2 a3 a4 a5 a6 a7 : Option V} {ti : TIp} (h : te (a0 :: a1 :: a2 :: a3 :: a4 :: a5 :: a6 :: a7 :: some x :: r) H fun y H1 => ti x y H1 fun z H2 => D.nx (a0 :: a1 :: a2 :: a3 :: a4 :: a5 :: a6 :: a7 :: some z :: r) H2) : tAug 8 te ti D (a0 :: a1 :: a2 :: a3 :: a4 :: a5 :: a6 :: a7 :: some x :: r) H := ⟨x, rfl, h⟩
theorem v9 {a0 a1 a2 a3 a4 a5 a6 a7 a8 : Option V} (h : Q v H) : tVar 9 (a0 :: a1 :: a2 :: a3 :: a4 :: a5 :: a6 :: a7 :: a8 :: some v :: r) H Q := ⟨v, rfl, h⟩
theorem n9 {a0 a1 a2 a3 a4 a5 a6 a7 a8 : Option V} {Q : L2.St → Hp → Prop} (h : Q (a0 :: a1 :: a2 :: a3 :: a4 :: a5 :: a6 :: a7 :: a8 :: some v :: r) H) : gName 9 v (a0 :: a1 :: a2 :: a3 :: a4 :: a5 :: a6 :: a7 :: a8 :: a :: r) H Q := h
theorem g9 {a0 a1 a2 a3 a4 a5 a6 a7 a8 : Option V} {ti : TIp} (h : te (a0 :: a1 :: a2 :: a3 :: a4 :: a5 :: a6 :: a7 :: a8 :: some x :: r) H fun y H1 => ti x y H1 fun z H2 => D.nx (a0 :: a1 :: a2 :: a3 :: a4 :: a5 :: a6 :: a7 :: a8 :: some z :: r) H2) : tAug 9 te ti D (a0 :: a1 :: a2 :: a3 :: a4 :: a5 :: a6 :: a7 :: a8 :: some x :: r) H := ⟨x, rfl, h⟩
theorem v10 {a0 a1 a2 a3 a4 a5 a6 a7 a8 a9 : Option V} (h : Q v H) : tVar 10 (a0 :: a1 :: a2 :: a3 :: a4 :: a5 :: a6 :: a7 :: a8 :: a9 :: some v :: r) H Q := ⟨v, rfl, h⟩
theorem n10 {a0 a1 a2 a3 a4 a5 a6 a7 a8 a9 : Option V} {Q : L2.St → Hp → Prop} (h : Q (a0 :: a1 :: a2 :: a3 :: a4 :: a5 :: a6 :: a7 :: a8 :: a9 :: some v :: r) H) : gName 10 v (a0 :: a1 :: a2 :: a3 :: a4 :: a5 :: a6 :: a7 :: a8 :: a9 :: a :: r) H Q := h
theorem g10 {a0 a1 a2 a3 a4 a5 a6 a7 a8 a9 : Option V} {ti : TIp} (h : te (a0 :: a1 :: a2 :: a3 :: a4 :: a5 :: a6 :: a7 :: a8 :: a9 :: some x :: r) H fun y H1 => ti x y H1 fun z H2 => D.nx (a0 :: a1 :: a2 :: a3 :: a4 :: a5 :: a6 :: a7 :: a8 :: a9 :: some z :: r) H2) : tAug 10 te ti D (a0 :: a1 :: a2 :: a3 :: a4 :: a5 :: a6 :: a7 :: a8 :: a9 :: some x :: r) H := ⟨x, rfl, h⟩
theorem v11 {a0 a1 a2 a3 a4 a5 a6 a7 a8 a9 a10 : Option V} (h : Q v H) : tVar 11 (a0 :: a1 :: a2 :: a3 :: a4 :: a5 :: a6 :: a7 :: a8 :: a9 :: a10 :: some v :: r) H Q := ⟨v, rfl, h⟩
theorem n11 {a0 a1 a2 a3 a4 a5 a6 a7 a8 a9 a10 : Option V} {Q : L2.St → Hp → Prop} (h : Q (a0 :: a1 :: a2 :: a3 :: a4 :: a5 :: a6 :: a7 :: a8 :: a9 :: a10 :: some v :: r) H) : gName 11 v (a0 :: a1 :: a2 :: a3 :: a4 :: a5 :: a6 :: a7 :: a8 :: a9 :: a10 :: a :: r) H Q := h
theorem g11 {a0 a1 a2 a3 a4 a5 a6 a7 a8 a9 a10 : Option V} {ti : TIp} (h : te (a0 :: a1 :: a2 :: a3 :: a4 :: a5 :: a6 :: a7 :: a8 :: a9 :: a10 :: some x :: r) H fun y H1 => ti x y H1 fun z H2 => D.nx (a0 :: a1 :: a2 :: a3 :: a4 :: a5 :: a6 :: a7 :: a8 :: a9 :: a10 :: some z :: r) H2) : tAug 11 te ti D (a0 :: a1 :: a2 :: a3 :: a4 :: a5 :: a6 :: a7 :: a8 :: a9 :: a10 :: some x :: r) H := ⟨x, rfl, h⟩
theorem v12 {a0 a1 a2 a3 a4 a5 a6 a7 a8 a9 a10 a11 : Option V} (h : Q v H) : tVar 12 (a0 :: a1 :: a2 :: a3 :: a4 :: a5 :: a6 :: a7 :: a8 :: a9 :: a10 :: a11 :: some v :: r) H Q := ⟨v, rfl, h⟩
theorem n12 {a0 a1 a2 a3 a4 a5 a6 a7 a8 a9 a10 a11 : Option V} {Q : L2.St → Hp → Prop} (h : Q (a0 :: a1 :: a2 :: a3 :: a4 :: a5 :: a6 :: a7 :: a8 :: a9 :: a10 :: a11 :: some v :: r) H) : gName 12 v (a0 :: a1 :: a2 :: a3 :: a4 :: a5 :: a6 :: a7 :: a8 :: a9 :: a10 :: a11 :: a :: r) H Q := h
theorem g12 {a0 a1 a2 a3 a4 a5 a6 a7 a8 a9 a10 a11 : Option V} {ti : TIp} (h : te (a0 :: a1 :: a2 :: a3 :: a4 :: a5 :: a6 :: a7 :: a8 :: a9 :: a10 :: a11 :: some x :: r) H fun y H1 => ti x y H1 fun z H2 => D.nx (a0 :: a1 :: a2 :: a3 :: a4 :: a5 :: a6 :: a7 :: a8 :: a9 :: a10 :: a11 :: some z :: r) H2) : tAug 12 te ti D (a0 :: a1 :: a2 :: a3 :: a4 :: a5 :: a6 :: a7 :: a8 :: a9 :: a10 :: a11 :: some x :: r) H := ⟨x, rfl, h⟩
theorem v13 {a0 a1 a2 a3 a4 a5 a6 a7 a8 a9 a10 a11 a12 : Option V} (h : Q v H) : tVar 13 (a0 :: a1 :: a2 :: a3 :: a4 :: a5 :: a6 :: a7 :: a8 :: a9 :: a10 :: a11 :: a12 :: some v :: r) H Q := ⟨v, rfl, h⟩
theorem n13 {a0 a1 a2 a3 a4 a5 a6 a7 a8 a9 a10 a11 a12 : Option V} {Q : L2.St → Hp → Prop} (h : Q (a0 :: a1 :: a2 :: a3 :: a4 :: a5 :: a6 :: a7 :: a8 :: a9 :: a10 :: a11 :: a12 :: some v :: r) H) : gName 13 v (a0 :: a1 :: a2 :: a3 :: a4 :: a5 :: a6 :: a7 :: a8 :: a9 :: a10 :: a11 :: a12 :: a :: r) H Q := h
theorem g13 {a0 a1 a2 a3 a4 a5 a6 a7 a8 a9 a10 a11 a12 : Option V} {ti : TIp} (h : te (a0 :: a1 :: a2 :: a3 :: a4 :: a5 :: a6 :: a7 :: a8 :: a9 :: a10 :: a11 :: a12 :: some x :: r) H fun y H1 => ti x y H1 fun z H2 => D.nx (a0 :: a1 :: a2 :: a3 :: a4 :: a5 :: a6 :: a7 :: a8 :: a9 :: a10 :: a11 :: a12 :: some z :: r) H2) : tAug 13 te ti D (a0 :: a1 :: a2 :: a3 :: a4 :: a5 :: a6 :: a7 :: a8 :: a9 :: a10 :: a11 :: a12 :: some x :: r) H := ⟨x, rfl, h⟩
theorem v14 {a0 a1 a2 a3 a4 a5 a6 a7 a8 a9 a10 a11 a12 a13 : Option V} (h : Q v H) : tVar 14 (a0 :: a1 :: a2 :: a3 :: a4 :: a5 :: a6 :: a7 :: a8 :: a9 :: a10 :: a11 :: a12 :: a13 :: some v :: r) H Q := ⟨v, rfl, h⟩
theorem n14 {a0 a1 a2 a3 a4 a5 a6 a7 a8 a9 a10 a11 a12 a13 : Option V} {Q : L2.St → Hp → Prop} (h : Q (a0 :: a1 :: a2 :: a3 :: a4 :: a5 :: a6 :: a7 :: a8 :: a9 :: a10 :: a11 :: a12 :: a13 :: some v :: r) H) : gName 14 v (a0 :: a1 :: a2 :: a3 :: a4 :: a5 :: a6 :: a7 :: a8 :: a9 :: a10 :: a11 :: a12 :: a13 :: a :: r) H Q := h
theorem g14 {a0 a1 a2 a3 a4 a5 a6 a7 a8 a9 a10 a11 a12 a13 : Option V} {ti : TIp} (h : te (a0 :: a1 :: a2 :: a3 :: a4 :: a5 :: a6 :: a7 :: a8 :: a9 :: a10 :: a11 :: a12 :: a13 :: some x :: r) H fun y H1 => ti x y H1 fun z H2 => D.nx (a0 :: a1 :: a2 :: a3 :: a4 :: a5 :: a6 :: a7 :: a8 :: a9 :: a10 :: a11 :: a12 :: a13 :: some z :: r) H2) : tAug 14 te ti D (a0 :: a1 :: a2 :: a3 :: a4 :: a5 :: a6 :: a7 :: a8 :: a9 :: a10 :: a11 :: a12 :: a13 :: some x :: r) H := ⟨x, rfl, h⟩
theorem v15 {a0 a1 a2 a3 a4 a5 a6 a7 a8 a9 a10 a11 a12 a13 a14 : Option V} (h : Q v H) : tVar 15 (a0 :: a1 :: a2 :: a3 :: a4 :: a5 :: a6 :: a7 :: a8 :: a9 :: a10 :: a11 :: a12 :: a13 :: a14 :: some v :: r) H Q := ⟨v, rfl, h⟩
theorem n15 {a0 a1 a2 a3 a4 a5 a6 a7 a8 a9 a10 a11 a12 a13 a14 : Option V} {Q : L2.St → Hp → Prop} (h : Q (a0 :: a1 :: a2 :: a3 :: a4 :: a5 :: a6 :: a7 :: a8 :: a9 :: a10 :: a11 :: a12 :: a13 :: a14 :: some v :: r) H) : gName 15 v (a0 :: a1 :: a2 :: a3 :: a4 :: a5 :: a6 :: a7 :: a8 :: a9 :: a10 :: a11 :: a12 :: a13 :: a14 :: a :: r) H Q := h
theorem g15 {a0 a1 a2 a3 a4 a5 a6 a7 a8 a9 a10 a11 a12 a13 a14 : Option V} {ti : TIp} (h : te (a0 :: a1 :: a2 :: a3 :: a4 :: a5 :: a6 :: a7 :: a8 :: a9 :: a10 :: a11 :: a12 :: a13 :: a14 :: some x :: r) H fun y H1 => ti x y H1 fun z H2 => D.nx (a0 :: a1 :: a2 :: a3 :: a4 :: a5 :: a6 :: a7 :: a8 :: a9 :: a10 :: a11 :: a12 :: a13 :: a14 :: some z :: r) H2) : tAug 15 te ti D (a0 :: a1 :: a2 :: a3 :: a4 :: a5 :: a6 :: a7 :: a8 :: a9 :: a10 :: a11 :: a12 :: a13 :: a14 :: some x :: r) H := ⟨x, rfl, h⟩
theorem room65 {k : Nat} {A : Around} (r : Room k A) : A.units + 65 < cLine := by
  have := r.un
  omega
/-! ### iterators -/
def lcRest (g : TG) (tt : TT) (te : TE) (vs : List Nat) (σ : L2.St) (Q : VK) (J : It) (H1 : Hp) : Prop := ∀ D, H1 D = none → ∃ W : Nat → Nat → Hp → Prop, (∃ m, W 0 m (upd H1 D (.lst []))) ∧ ∀ i m H, W i m H →
  (J.stop i H ∧ Q (.ref D) H) ∨ (J.go i H ∧ ∃ Nx : Hp → Prop, (∀ H', Nx H' → ∃ m', m' < m ∧ W (i + 1) m' H') ∧ ∀ x H', J.yld i H x H' → g x (wipe σ vs) H' fun σ2 H2 => wipe σ2 vs = wipe σ vs ∧ tt σ2 H2 fun b H3 =>
    if b = true then te σ2 H3 fun y H4 => ∃ acc, H4 D = some (.lst acc) ∧ acc.length < sizeLine ∧ Nx (upd H4 D (.lst (acc ++ [y]))) else Nx H3)
theorem lc {wi : TI} {tt : TT} {ws : List Nat} (h : wi σ H (lcRest g tt te ws σ Q)) : tLc wi g tt te ws σ H Q := h
def forRest (g : TG) (tb : TS) (D : Ends) (σ0 : L2.St) (J : It) (H1 : Hp) : Prop := ∃ W : Nat → Nat → L2.St → Hp → Prop, (∃ m, W 0 m σ0 H1) ∧ ∀ i m σ H, W i m σ H →
  (J.stop i H ∧ D.nx σ H) ∨ (J.go i H ∧ ∃ N : L2.St → Hp → Prop, (∀ σ' H', N σ' H' → ∃ m', m' < m ∧ W (i + 1) m' σ' H') ∧ ∀ x H', J.yld i H x H' → g x σ H' fun σ2 H2 => tb { D with nx := N, ct := N, bk := D.nx } σ2 H2)
theorem for_ {wi : TI} {tb : TS} (h : wi σ H (forRest g tb D σ)) : tFor wi g tb D σ H := h
variable {R : It → Hp → Prop}
theorem ilist (h : te σ H fun x H1 => ∃ a, x = .ref a ∧ (∃ xs, SqL K H1 a xs) ∧ R (Itl K a) H1) : iList K te σ H R := h
theorem itup (h : te σ H fun x H1 => ∃ a, x = .ref a ∧ (∃ xs, SqT K H1 a xs) ∧ R (Itt K a) H1) : iTup K te σ H R := h
theorem irng1 (h : tr σ H fun vs H1 => ∃ j : Int, vs = [.int j] ∧ -(2 ^ 62) ≤ j ∧ j < 2 ^ 62 ∧ R (Itr 0 j.toNat) H1) : iRng1 tr σ H R := h
theorem irng2 (h : tr σ H fun vs H1 => ∃ i j : Int, vs = [.int i, .int j] ∧ (-(2 ^ 62) ≤ i ∧ i < 2 ^ 62 ∧ -(2 ^ 62) ≤ j ∧ j < 2 ^ 62) ∧ R (Itr i (j - i).toNat) H1) : iRng2 tr σ H R := h
theorem ienum (h : tr σ H fun vs H1 => ∃ a xs, vs = [.ref a] ∧ SqL K H1 a xs ∧ R (Ite K a) H1) : iEnum K tr σ H R := h
theorem istr (h : te σ H fun v H1 => ∃ x, v = .str x ∧ R (Its x) H1) : iStr te σ H R := h
theorem refA {a : Addr} {P : Addr → Prop} (h : P a) : ∃ b, V.ref a = .ref b ∧ P b := ⟨a, rfl, h⟩
theorem strA {a : Str} {P : Str → Prop} (h : P a) : ∃ b, V.str a = .str b ∧ P b := ⟨a, rfl, h⟩
theorem sqA {l : Addr} {xs : List V} {A : Prop} (h : H l = some (.lst xs)) (q : A) : (∃ xs, SqL K H l xs) ∧ A := ⟨⟨_, SqL.of h⟩, q⟩
theorem sqAq {l : Addr} {xs : List V} {A : Prop} (h : SqL K H l xs) (q : A) : (∃ xs, SqL K H l xs) ∧ A := ⟨⟨_, h⟩, q⟩
theorem stA {l : Addr} {xs : List V} {A : Prop} (h : H l = some (.tup xs)) (q : A) : (∃ xs, SqT K H l xs) ∧ A := ⟨⟨_, SqT.of h⟩, q⟩
theorem stAq {l : Addr} {xs : List V} {A : Prop} (h : SqT K H l xs) (q : A) : (∃ xs, SqT K H l xs) ∧ A := ⟨⟨_, h⟩, q⟩
theorem enA {l : Addr} {xs : List V} {P : Addr → Prop} (h : H l = some (.lst xs)) (q : P l) : ∃ a ys, [V.ref l] = [.ref a] ∧ SqL K H a ys ∧ P a := ⟨l, xs, rfl, SqL.of h, q⟩
theorem enAq {l : Addr} {xs : List V} {P : Addr → Prop} (h : SqL K H l xs) (q : P l) : ∃ a ys, [V.ref l] = [.ref a] ∧ SqL K H a ys ∧ P a := ⟨l, xs, rfl, h, q⟩
theorem lenL {l : Addr} {xs : List V} {P : List V → Prop} (h : H l = some (.lst xs)) (q : P xs) : ∃ p ys, [V.ref l] = [.ref p] ∧ (SqL K H p ys ∨ SqT K H p ys) ∧ P ys := ⟨l, xs, rfl, .inl (SqL.of h), q⟩
theorem lenLq {l : Addr} {xs : List V} {P : List V → Prop} (h : SqL K H l xs) (q : P xs) : ∃ p ys, [V.ref l] = [.ref p] ∧ (SqL K H p ys ∨ SqT K H p ys) ∧ P ys := ⟨l, xs, rfl, .inl h, q⟩
theorem lenTq {l : Addr} {xs : List V} {P : List V → Prop} (h : SqT K H l xs) (q : P xs) : ∃ p ys, [V.ref l] = [.ref p] ∧ (SqL K H p ys ∨ SqT K H p ys) ∧ P ys := ⟨l, xs, rfl, .inr h, q⟩
theorem lenT {l : Addr} {xs : List V} {P : List V → Prop} (h : H l = some (.tup xs)) (q : P xs) : ∃ p ys, [V.ref l] = [.ref p] ∧ (SqL K H p ys ∨ SqT K H p ys) ∧ P ys := ⟨l, xs, rfl, .inr (SqT.of h), q⟩
/-! ### comprehensions: each element by a relation -/
def But (D : Addr) (H H' : Hp) : Prop := ∀ b o, b ≠ D → H b = some o → H' b = some o
theorem But.refl {D : Addr} : But D H H := fun _ _ _ h => h
theorem But.trans {D : Addr} {H H1 H2 : Hp} (a : But D H H1) (b : But D H1 H2) : But D H H2 := fun x o n h => b x o n (a x o n h)
theorem But.same {D : Addr} {H H1 : Hp} (a : Same H H1) : But D H H1 := fun x o _ h => a x o h
theorem But.at_ {D : Addr} {o : HO} : But D H (upd H D o) := fun x u n h => by rw [upd_ne n]; exact h
theorem But.to {D : Addr} {H H1 : Hp} (a : But D H H1) (n : H D = none) : Same H H1 := fun x o h => a x o (fun z => by rw [z, n] at h; cases h) h
theorem lc_rel {J : It} {n : Nat} {G : Hp → Prop} {Y : Nat → Hp → V → Hp → Prop} (w : Walk J n G Y) {g : TG} {te : TE} {vs : List Nat} {σ : L2.St} {H1 : Hp} {D : Addr} {Qd : Hp → Prop} (R : Nat → V → Hp → Prop)
    (nD : H1 D = none) (hn : n ≤ 100000) (mono : ∀ i v H H', R i v H → But D H H' → R i v H') (hG : ∀ H, But D H1 H → G H)
    (hs : ∀ i x H H' (Kt : VK), i < n → But D H1 H → (∃ xs, H D = some (.lst xs)) → Y i H x H' → (∀ y H4, R i y H4 → Same H H4 → Kt y H4) → g x (wipe σ vs) H' fun σ2 H2 => wipe σ2 vs = wipe σ vs ∧ te σ2 H2 Kt)
    (hd : ∀ H ys, ys.length = n → (∀ i v, ys[i]? = some v → R i v H) → Same H1 H → H D = some (.lst ys) → Qd H) :
    ∃ W : Nat → Nat → Hp → Prop, (∃ m, W 0 m (upd H1 D (.lst []))) ∧ ∀ i m H, W i m H →
      (J.stop i H ∧ Qd H) ∨ (J.go i H ∧ ∃ Nx : Hp → Prop, (∀ H', Nx H' → ∃ m', m' < m ∧ W (i + 1) m' H') ∧ ∀ x H', J.yld i H x H' → g x (wipe σ vs) H' fun σ2 H2 => wipe σ2 vs = wipe σ vs ∧ tYes σ2 H2 fun b H3 =>
        if b = true then te σ2 H3 fun y H4 => ∃ acc, H4 D = some (.lst acc) ∧ acc.length < sizeLine ∧ Nx (upd H4 D (.lst (acc ++ [y]))) else Nx H3) := by
  refine lc_it w (fun i H => ∃ ys, ys.length = i ∧ (∀ i v, ys[i]? = some v → R i v H) ∧ But D H1 H ∧ H D = some (.lst ys)) ⟨[], rfl, fun i v h => by simp at h, But.at_, upd_same⟩ (fun i H _ h => ?_) (fun i x H H' hi h y => ?_) (fun H h => ?_)
  · obtain ⟨_, _, _, b, _⟩ := h
    exact hG H b
  · obtain ⟨ys, hl, hr, b, hD⟩ := h
    refine hs i x H H' _ hi b ⟨_, hD⟩ y fun v H4 r sm => ?_
    refine ⟨ys, sm _ _ hD, szl (by omega), ys ++ [v], by simp [hl], fun j u hj => ?_, (b.trans (But.same sm)).trans But.at_, upd_same⟩
    by_cases hj2 : j < ys.length
    · rw [List.getElem?_append_left hj2] at hj
      exact mono _ _ _ _ (hr j u hj) ((But.same sm).trans But.at_)
    · have e : j = ys.length := by
        have := (List.getElem?_eq_some_iff.mp hj).1
        simp at this; omega
      subst e
      rw [List.getElem?_append_right (Nat.le_refl _)] at hj
      simp at hj
      subst hj
      rw [hl]
      exact mono _ _ _ _ r But.at_
  · obtain ⟨ys, hl, hr, b, hD⟩ := h
    exact hd H ys hl hr (b.to nD) hD
/-! ### tests, ints in lists -/
theorem ifD {p : Prop} [Decidable p] {A B : Prop} (h1 : p → A) (h2 : ¬ p → B) : if decide p = true then A else B := by
  by_cases h : p
  · rw [decide_eq_true h, if_pos rfl]; exact h1 h
  · rw [decide_eq_false h, if_neg Bool.false_ne_true]; exact h2 h
theorem ifN {p : Prop} [Decidable p] {A B : Prop} (h1 : ¬ p → A) (h2 : p → B) : if (!decide p) = true then A else B := by
  by_cases h : p
  · rw [decide_eq_true h, if_neg (by decide)]; exact h2 h
  · rw [decide_eq_false h, if_pos (by decide)]; exact h1 h
theorem ifT {A B : Prop} (h : A) : if true = true then A else B := by rw [if_pos rfl]; exact h
theorem ifF {A B : Prop} (h : B) : if false = true then A else B := by rw [if_neg Bool.false_ne_true]; exact h
theorem ifB {b : Bool} {A B : Prop} (h1 : b = true → A) (h2 : b = false → B) : if b = true then A else B := by
  cases b with
  | true => exact ifT (h1 rfl)
  | false => exact ifF (h2 rfl)
theorem ifNB {b : Bool} {A B : Prop} (h1 : b = false → A) (h2 : b = true → B) : if (!b) = true then A else B := by
  cases b with
  | true => exact ifF (h2 rfl)
  | false => exact ifT (h1 rfl)
theorem flat_ints (ns : List Int) : (ns.map V.int).all flatV = true := by
  rw [List.all_eq_true]
  intro x hx
  obtain ⟨i, _, rfl⟩ := List.mem_map.mp hx
  rfl
theorem flat_strs (ns : List Str) : (ns.map V.str).all flatV = true := by
  rw [List.all_eq_true]
  intro x hx
  obtain ⟨i, _, rfl⟩ := List.mem_map.mp hx
  rfl
theorem eqV_ints (a b : Int) : eqV (.int a) (.int b) = decide (a = b) := by
  by_cases h : a = b <;> simp [eqV, h]
theorem inV_ints (x : Int) (r : List Int) : inV (.int x) (r.map V.int) = decide (x ∈ r) := by
  unfold inV
  rw [List.any_map]
  by_cases h : x ∈ r
  · rw [decide_eq_true h, List.any_eq_true]
    exact ⟨x, h, beq_self_eq_true x⟩
  · rw [decide_eq_false h, List.any_eq_false]
    intro y hy e
    have e2 : (y == x) = true := e
    exact h (by rw [← eq_of_beq e2]; exact hy)
theorem first_at (ns : List Int) (n : Int) (h : n ∈ ns) : ∃ j : Nat, ns[j]? = some n ∧ ∀ i, i < j → ns[i]? ≠ some n := by
  induction ns with
  | nil => simp at h
  | cons a r ih =>
    by_cases e : a = n
    · exact ⟨0, by simp [e], fun i hi => absurd hi (Nat.not_lt_zero _)⟩
    · obtain ⟨j, h1, h2⟩ := ih ((List.mem_cons.mp h).resolve_left fun z => e z.symm)
      refine ⟨j + 1, by simpa using h1, fun i hi => ?_⟩
      cases i with
      | zero => simp [e]
      | succ i => simpa using h2 i (by omega)
theorem inI {p : Addr} {ns : List Int} {n : Int} (h : H p = some (.lst (ns.map V.int))) (q : Q (.bl (decide (n ∈ ns))) H) : rIn K false (.int n) (.ref p) H Q :=
  ⟨p, _, rfl, .inl (SqL.of h), rfl, flat_ints _, by rw [inV_ints]; exact q⟩
theorem ninI {p : Addr} {ns : List Int} {n : Int} (h : H p = some (.lst (ns.map V.int))) (q : Q (.bl (!decide (n ∈ ns))) H) : rIn K true (.int n) (.ref p) H Q :=
  ⟨p, _, rfl, .inl (SqL.of h), rfl, flat_ints _, by rw [inV_ints]; exact q⟩
theorem idxI {a : Addr} {ns : List Int} {n : Int} {j : Nat} (h : H a = some (.lst (ns.map V.int))) (hj : ns[j]? = some n) (hf : ∀ i, i < j → ns[i]? ≠ some n) (q : Q (.int (j : Nat)) H) : rIndex K (.ref a) [.int n] H Q :=
  ⟨a, _, _, j, .int n, rfl, rfl, SqL.of h, rfl, flat_ints _, by rw [List.getElem?_map, hj]; rfl, by rw [eqV_ints, decide_eq_true rfl], fun m z' hm hz => by
    rw [List.getElem?_map] at hz
    cases e : ns[m]? with
    | none => rw [e] at hz; cases hz
    | some x =>
      rw [e] at hz; cases hz
      rw [eqV_ints]
      exact decide_eq_false fun e2 => hf m hm (by rw [e, e2]), q⟩
theorem vals_map {n : Nat} {ns : List V} (f : Nat → Int) (ln : ns.length = n) (hn : ∀ (i : Nat) v, ns[i]? = some v → v = .int (f i)) : ns = ((List.range n).map f).map V.int := by
  refine List.ext_getElem? fun i => ?_
  rw [List.map_map, List.getElem?_map]
  by_cases hi : i < n
  · obtain ⟨v, hv⟩ : ∃ v, ns[i]? = some v := ⟨_, List.getElem?_eq_getElem (by omega)⟩
    rw [hv, List.getElem?_range hi, hn i v hv]
    rfl
  · rw [List.getElem?_eq_none (by omega), List.getElem?_eq_none (by rw [List.length_range]; omega)]
    rfl
theorem at_int {ns : List Int} {i : Int} {j : Nat} {n : Int} (e : i = (j : Int)) (h : ns[j]? = some n) : atI (ns.map V.int) i = some (.int n) := by
  subst e
  exact atI_nat (by rw [List.getElem?_map, h]; rfl)
theorem at_val {xs : List V} {i : Int} {j : Nat} (e : i = (j : Int)) (h : xs[j]? = some v) : atI xs i = some v := by
  subst e
  exact atI_nat h
theorem zr {i : Nat} {H H' : Hp} (y : YFn (fun (i : Nat) => V.int ((0 : Int) + (i : Int))) i H x H') : x = .int (i : Int) ∧ H' = H := by
  obtain ⟨a, b⟩ := y
  exact ⟨by rw [b]; show V.int (0 + (i : Int)) = _; rw [Int.zero_add], a⟩
/-! ### new objects, by what they leave -/
def NewT (Q : VK) (xs : List V) (H : Hp) : Prop := xs.length ≤ sizeLine ∧ ∀ p, H p = none → Q (.ref p) (upd H p (.tup xs))
def NewL (Q : VK) (xs : List V) (H : Hp) : Prop := xs.length ≤ sizeLine ∧ ∀ p, H p = none → Q (.ref p) (upd H p (.lst xs))
theorem tupN (h : tr σ H (NewT Q)) : tTup tr σ H Q := h
theorem lstN (h : tr σ H (NewL Q)) : tLst tr σ H Q := h
theorem nwT {xs : List V} (s : xs.length ≤ sizeLine) (h : ∀ p H', H p = none → Same H H' → H' p = some (.tup xs) → Q (.ref p) H') : NewT Q xs H := ⟨s, fun p np => h p _ np (same_new np) upd_same⟩
theorem nwL {xs : List V} (s : xs.length ≤ sizeLine) (h : ∀ p H', H p = none → Same H H' → H' p = some (.lst xs) → Q (.ref p) H') : NewL Q xs H := ⟨s, fun p np => h p _ np (same_new np) upd_same⟩
def ListOf (K : PySem.W.Frag) (Q : VK) (vs : List V) (H : Hp) : Prop := ∃ p ys, vs = [.ref p] ∧ (SqL K H p ys ∨ SqT K H p ys) ∧ ∀ l, H l = none → Q (.ref l) (upd H l (.lst ys))
theorem cbListOf (h : tr σ H (ListOf K Q)) : tCB (fun xs H Q => ∃ p ys, xs = [.ref p] ∧ (SqL K H p ys ∨ SqT K H p ys) ∧ ∀ l, H l = none → Q (.ref l) (upd H l (.lst ys))) tr σ H Q := h
theorem listOfq {a : Addr} {ys : List V} (s : SqL K H a ys) (h : ∀ p H', H p = none → Same H H' → H' p = some (.lst ys) → Q (.ref p) H') : ListOf K Q [.ref a] H := ⟨a, ys, rfl, .inl s, fun p np => h p _ np (same_new np) upd_same⟩
theorem listOf {a : Addr} {ys : List V} (s : H a = some (.lst ys)) (h : ∀ p H', H p = none → Same H H' → H' p = some (.lst ys) → Q (.ref p) H') : ListOf K Q [.ref a] H := listOfq (SqL.of s) h
def SlL (K : PySem.W.Frag) (x : V) (lo hi : Option Int) (Q : VK) (H : Hp) : Prop := ∃ a xs, x = .ref a ∧ SqL K H a xs ∧ ∀ p, H p = none → Q (.ref p) (upd H p (.lst (cutV xs lo hi)))
theorem slN {tl th : TO} (h : te σ H fun x H1 => tl σ H1 fun l H2 => th σ H2 fun u H3 => SlL K x l u Q H3) : L2.tSl (rSlL K) te tl th σ H Q := h
theorem slq {a : Addr} {xs : List V} {lo hi : Option Int} (s : SqL K H a xs) (h : ∀ p H', H p = none → Same H H' → H' p = some (.lst (cutV xs lo hi)) → Q (.ref p) H') : SlL K (.ref a) lo hi Q H := ⟨a, xs, rfl, s, fun p np => h p _ np (same_new np) upd_same⟩
theorem slo {a : Addr} {xs : List V} {lo hi : Option Int} (s : H a = some (.lst xs)) (h : ∀ p H', H p = none → Same H H' → H' p = some (.lst (cutV xs lo hi)) → Q (.ref p) H') : SlL K (.ref a) lo hi Q H := slq (SqL.of s) h
def SrtI (K : PySem.W.Frag) (Q : VK) (vs : List V) (H : Hp) : Prop := rSortedI K vs H Q
theorem cbSrtI (h : tr σ H (SrtI K Q)) : tCB (rSortedI K) tr σ H Q := h
theorem srtI {a : Addr} {ns : List Int} (s : SqL K H a (ns.map V.int)) (h : ∀ (ns' : List Int) p H', ns'.Perm ns → ns'.Pairwise (· ≤ ·) → H p = none → Same H H' → H' p = some (.lst (ns'.map V.int)) → Q (.ref p) H') : SrtI K Q [.ref a] H :=
  ⟨a, ns, rfl, s, fun ns' p e1 e2 np => h ns' p _ e1 e2 np (same_new np) upd_same⟩
theorem srtIo {a : Addr} {ns : List Int} (s : H a = some (.lst (ns.map V.int))) (h : ∀ (ns' : List Int) p H', ns'.Perm ns → ns'.Pairwise (· ≤ ·) → H p = none → Same H H' → H' p = some (.lst (ns'.map V.int)) → Q (.ref p) H') : SrtI K Q [.ref a] H := srtI (SqL.of s) h
theorem eqD {d e : PyData} (h1 : Dp K H x d) (h2 : Dp K H y e) (s1 : SeqAt.shaped d = true) (s2 : SeqAt.shaped e = true) (q : Q (.bl (PyData.eqv d e)) H) : rEqD K x y H Q := ⟨d, e, h1, h2, s1, s2, q⟩
theorem neD {d e : PyData} (h1 : Dp K H x d) (h2 : Dp K H y e) (s1 : SeqAt.shaped d = true) (s2 : SeqAt.shaped e = true) (q : Q (.bl (!PyData.eqv d e)) H) : rNeD K x y H Q := ⟨d, e, h1, h2, s1, s2, q⟩
/-! ### isinstance -/
theorem isi {T U : String} {b : Bool} (t : TyX K H x (.type T)) (k : kitB T U = some b) (q : Q (.bl b) H) : rIsi K [x, .ty U] H Q := ⟨x, .ty U, _, _, b, rfl, .ty _, t, kit_ty k, q⟩
theorem isi_ii {n : Int} (q : Q (.bl true) H) : rIsi K [.int n, .ty "int"] H Q := isi (.base (.int _)) (by decide +kernel) q
theorem isi_ib {n : Int} (q : Q (.bl false) H) : rIsi K [.int n, .ty "bool"] H Q := isi (.base (.int _)) (by decide +kernel) q
theorem isi_is {n : Int} (q : Q (.bl false) H) : rIsi K [.int n, .ty "str"] H Q := isi (.base (.int _)) (by decide +kernel) q
theorem isi_il {n : Int} (q : Q (.bl false) H) : rIsi K [.int n, .ty "list"] H Q := isi (.base (.int _)) (by decide +kernel) q
theorem isi_it {n : Int} (q : Q (.bl false) H) : rIsi K [.int n, .ty "tuple"] H Q := isi (.base (.int _)) (by decide +kernel) q
theorem isi_id {n : Int} (q : Q (.bl false) H) : rIsi K [.int n, .ty "dict"] H Q := isi (.base (.int _)) (by decide +kernel) q
theorem isi_bi {n : Bool} (q : Q (.bl true) H) : rIsi K [.bl n, .ty "int"] H Q := isi (.base (.bl _)) (by decide +kernel) q
theorem isi_bb {n : Bool} (q : Q (.bl true) H) : rIsi K [.bl n, .ty "bool"] H Q := isi (.base (.bl _)) (by decide +kernel) q
theorem isi_bs {n : Bool} (q : Q (.bl false) H) : rIsi K [.bl n, .ty "str"] H Q := isi (.base (.bl _)) (by decide +kernel) q
theorem isi_bl {n : Bool} (q : Q (.bl false) H) : rIsi K [.bl n, .ty "list"] H Q := isi (.base (.bl _)) (by decide +kernel) q
theorem isi_bt {n : Bool} (q : Q (.bl false) H) : rIsi K [.bl n, .ty "tuple"] H Q := isi (.base (.bl _)) (by decide +kernel) q
theorem isi_bd {n : Bool} (q : Q (.bl false) H) : rIsi K [.bl n, .ty "dict"] H Q := isi (.base (.bl _)) (by decide +kernel) q
theorem isi_si {n : Str} (q : Q (.bl false) H) : rIsi K [.str n, .ty "int"] H Q := isi (.base (.str _)) (by decide +kernel) q
theorem isi_sb {n : Str} (q : Q (.bl false) H) : rIsi K [.str n, .ty "bool"] H Q := isi (.base (.str _)) (by decide +kernel) q
theorem isi_ss {n : Str} (q : Q (.bl true) H) : rIsi K [.str n, .ty "str"] H Q := isi (.base (.str _)) (by decide +kernel) q
theorem isi_sl {n : Str} (q : Q (.bl false) H) : rIsi K [.str n, .ty "list"] H Q := isi (.base (.str _)) (by decide +kernel) q
theorem isi_st {n : Str} (q : Q (.bl false) H) : rIsi K [.str n, .ty "tuple"] H Q := isi (.base (.str _)) (by decide +kernel) q
theorem isi_sd {n : Str} (q : Q (.bl false) H) : rIsi K [.str n, .ty "dict"] H Q := isi (.base (.str _)) (by decide +kernel) q
theorem isi_li {n : Addr} {xs : List V} (h : H n = some (.lst xs)) (q : Q (.bl false) H) : rIsi K [.ref n, .ty "int"] H Q := isi (.base (.lst h)) (by decide +kernel) q
theorem isi_lb {n : Addr} {xs : List V} (h : H n = some (.lst xs)) (q : Q (.bl false) H) : rIsi K [.ref n, .ty "bool"] H Q := isi (.base (.lst h)) (by decide +kernel) q
theorem isi_ls {n : Addr} {xs : List V} (h : H n = some (.lst xs)) (q : Q (.bl false) H) : rIsi K [.ref n, .ty "str"] H Q := isi (.base (.lst h)) (by decide +kernel) q
theorem isi_ll {n : Addr} {xs : List V} (h : H n = some (.lst xs)) (q : Q (.bl true) H) : rIsi K [.ref n, .ty "list"] H Q := isi (.base (.lst h)) (by decide +kernel) q
theorem isi_lt {n : Addr} {xs : List V} (h : H n = some (.lst xs)) (q : Q (.bl false) H) : rIsi K [.ref n, .ty "tuple"] H Q := isi (.base (.lst h)) (by decide +kernel) q
theorem isi_ld {n : Addr} {xs : List V} (h : H n = some (.lst xs)) (q : Q (.bl false) H) : rIsi K [.ref n, .ty "dict"] H Q := isi (.base (.lst h)) (by decide +kernel) q
theorem isi_ti {n : Addr} {xs : List V} (h : H n = some (.tup xs)) (q : Q (.bl false) H) : rIsi K [.ref n, .ty "int"] H Q := isi (.base (.tup h)) (by decide +kernel) q
theorem isi_tb {n : Addr} {xs : List V} (h : H n = some (.tup xs)) (q : Q (.bl false) H) : rIsi K [.ref n, .ty "bool"] H Q := isi (.base (.tup h)) (by decide +kernel) q
theorem isi_ts {n : Addr} {xs : List V} (h : H n = some (.tup xs)) (q : Q (.bl false) H) : rIsi K [.ref n, .ty "str"] H Q := isi (.base (.tup h)) (by decide +kernel) q
theorem isi_tl {n : Addr} {xs : List V} (h : H n = some (.tup xs)) (q : Q (.bl false) H) : rIsi K [.ref n, .ty "list"] H Q := isi (.base (.tup h)) (by decide +kernel) q
theorem isi_tt {n : Addr} {xs : List V} (h : H n = some (.tup xs)) (q : Q (.bl true) H) : rIsi K [.ref n, .ty "tuple"] H Q := isi (.base (.tup h)) (by decide +kernel) q
theorem isi_td {n : Addr} {xs : List V} (h : H n = some (.tup xs)) (q : Q (.bl false) H) : rIsi K [.ref n, .ty "dict"] H Q := isi (.base (.tup h)) (by decide +kernel) q
theorem isi_ni  (q : Q (.bl false) H) : rIsi K [.non, .ty "int"] H Q := isi (.base .non) (by decide +kernel) q
theorem isi_nb  (q : Q (.bl false) H) : rIsi K [.non, .ty "bool"] H Q := isi (.base .non) (by decide +kernel) q
theorem isi_ns  (q : Q (.bl false) H) : rIsi K [.non, .ty "str"] H Q := isi (.base .non) (by decide +kernel) q
theorem isi_nl  (q : Q (.bl false) H) : rIsi K [.non, .ty "list"] H Q := isi (.base .non) (by decide +kernel) q
theorem isi_nt  (q : Q (.bl false) H) : rIsi K [.non, .ty "tuple"] H Q := isi (.base .non) (by decide +kernel) q
theorem isi_nd  (q : Q (.bl false) H) : rIsi K [.non, .ty "dict"] H Q := isi (.base .non) (by decide +kernel) q
/-! ### slices of lists -/
theorem cut_to (xs : List V) (n : Nat) : cutV xs none (some (n : Int)) = xs.take n := by
  unfold cutV
  rw [HT.sIx_nat, HT.sIx_none, List.drop_zero, Nat.sub_zero]
  rcases Nat.le_total n xs.length with h | h
  · rw [Nat.min_eq_left h]
  · rw [Nat.min_eq_right h, List.take_of_length_le (Nat.le_refl _), List.take_of_length_le h]
theorem cut_from (xs : List V) (n : Nat) : cutV xs (some (n : Int)) none = xs.drop n := by
  unfold cutV
  rw [HT.sIx_nat, HT.sIx_none]
  rcases Nat.le_total n xs.length with h | h
  · rw [Nat.min_eq_left h, List.take_of_length_le (by rw [List.length_drop]; omega)]
  · rw [Nat.min_eq_right h, List.drop_of_length_le h, List.drop_of_length_le (Nat.le_refl _), List.take_nil]
theorem eqv_self (d : PyData) (h : d.canLay0 = true) : PyData.eqv d d = true := PySem.SeqAt.eqv_refl d h
/-! ### ints of a list, filtered -/
theorem lc_fl {a : Addr} {ns : List Int} {g : TG} {tt : TT} {te : TE} {vs : List Nat} {σ : L2.St} {H1 : Hp} {C : Addr} {Qd : Hp → Prop} (p : Int → Bool) (hS : SqL K H1 a (ns.map V.int)) (nD : H1 C = none) (hn : ns.length ≤ 90000)
    (hs : ∀ (i : Nat) H (n : Int) (Kt : VK) (Kn : Hp → Prop), ns[i]? = some n → But C H1 H → (p n = true → Kt (.int n) H) → (p n = false → Kn H) → g (.int n) (wipe σ vs) H fun σ2 H2 => wipe σ2 vs = wipe σ vs ∧ tt σ2 H2 fun b H3 => if b = true then te σ2 H3 Kt else Kn H3)
    (hd : ∀ H, Same H1 H → H C = some (.lst ((ns.filter p).map V.int)) → Qd H) :
    ∃ W : Nat → Nat → Hp → Prop, (∃ m, W 0 m (upd H1 C (.lst []))) ∧ ∀ i m H, W i m H →
      ((Itl K a).stop i H ∧ Qd H) ∨ ((Itl K a).go i H ∧ ∃ Nx : Hp → Prop, (∀ H', Nx H' → ∃ m', m' < m ∧ W (i + 1) m' H') ∧ ∀ x H', (Itl K a).yld i H x H' → g x (wipe σ vs) H' fun σ2 H2 => wipe σ2 vs = wipe σ vs ∧ tt σ2 H2 fun b H3 =>
        if b = true then te σ2 H3 fun y H4 => ∃ acc, H4 C = some (.lst acc) ∧ acc.length < sizeLine ∧ Nx (upd H4 C (.lst (acc ++ [y]))) else Nx H3) := by
  refine lc_it (walk_list (xs := ns.map V.int)) (fun i H => But C H1 H ∧ H C = some (.lst (((ns.take i).filter p).map V.int))) ⟨But.at_, by simp [upd_same]⟩ (fun i H _ h => (h.1.to nD).seq hS) (fun i x H H' hi ⟨b, hD⟩ y => ?_) (fun H ⟨b, hD⟩ => ?_)
  · obtain ⟨rfl, hx⟩ := y
    rw [List.getElem?_map] at hx
    obtain ⟨n, hn2, rfl⟩ : ∃ n, ns[i]? = some n ∧ V.int n = x := by
      cases e : ns[i]? with
      | none => rw [e] at hx; cases hx
      | some n => rw [e] at hx; exact ⟨n, rfl, Option.some.inj hx⟩
    have tk : (ns.take (i + 1)).filter p = (ns.take i).filter p ++ [n].filter p := by
      rw [List.take_add_one, hn2, List.filter_append]; rfl
    refine hs i _ n _ _ hn2 b (fun hp => ?_) (fun hp => ?_)
    · refine ⟨_, hD, szl ?_, b.trans But.at_, ?_⟩
      · rw [List.length_map]
        have := List.length_filter_le p (ns.take i)
        rw [List.length_take] at this
        omega
      · rw [upd_same, tk, List.filter_cons_of_pos hp]
        simp
    · refine ⟨b, ?_⟩
      rw [tk, List.filter_cons_of_neg (by simp [hp])]
      simpa using hD
  · rw [List.length_map, List.take_of_length_le (Nat.le_refl _)] at hD
    exact hd H (b.to nD) hD
theorem intI {i : Int} {A : Int → Prop} {B : Prop} (h : A i) : (∃ j, [V.int i] = [.int j] ∧ A j) ∨ B := .inl ⟨i, rfl, h⟩
theorem pos_ne {i : Int} (h : 0 < i) : i ≠ 0 := by omega
theorem ifnT {A B : Prop} (h : B) : if (!true) = true then A else B := by rw [if_neg (by decide)]; exact h
theorem ifnF {A B : Prop} (h : A) : if (!false) = true then A else B := by rw [if_pos (by decide)]; exact h
theorem cbListOfR {tr : TA} (h : tr σ H (ListOf K Q)) : tCB (rListOf K) tr σ H Q := h
def CatL (Q : VK) (x y : V) (H : Hp) : Prop := ∃ l b xs zs, x = .ref l ∧ y = .ref b ∧ H l = some (.lst xs) ∧ H b = some (.lst zs) ∧ xs.length + zs.length ≤ sizeLine ∧ ∀ p, H p = none → Q (.ref p) (upd H p (.lst (xs ++ zs)))
theorem catI (h : CatL Q x y H) : rCat x y H Q := h
theorem cat {a b : Addr} {xs zs : List V} (h1 : H a = some (.lst xs)) (h2 : H b = some (.lst zs)) (s : xs.length + zs.length ≤ 100000) (h : ∀ p H', H p = none → Same H H' → H' p = some (.lst (xs ++ zs)) → Q (.ref p) H') : CatL Q (.ref a) (.ref b) H := ⟨a, b, xs, zs, rfl, rfl, h1, h2, sz s, fun p np => h p _ np (same_new np) upd_same⟩
theorem v16 {a0 a1 a2 a3 a4 a5 a6 a7 a8 a9 a10 a11 a12 a13 a14 a15 : Option V} (h : Q v H) : tVar 16 (a0 :: a1 :: a2 :: a3 :: a4 :: a5 :: a6 :: a7 :: a8 :: a9 :: a10 :: a11 :: a12 :: a13 :: a14 :: a15 :: some v :: r) H Q := ⟨v, rfl, h⟩
theorem n16 {a0 a1 a2 a3 a4 a5 a6 a7 a8 a9 a10 a11 a12 a13 a14 a15 : Option V} {Q : L2.St → Hp → Prop} (h : Q (a0 :: a1 :: a2 :: a3 :: a4 :: a5 :: a6 :: a7 :: a8 :: a9 :: a10 :: a11 :: a12 :: a13 :: a14 :: a15 :: some v :: r) H) : gName 16 v (a0 :: a1 :: a2 :: a3 :: a4 :: a5 :: a6 :: a7 :: a8 :: a9 :: a10 :: a11 :: a12 :: a13 :: a14 :: a15 :: a :: r) H Q := h
theorem g16 {a0 a1 a2 a3 a4 a5 a6 a7 a8 a9 a10 a11 a12 a13 a14 a15 : Option V} {ti : TIp} (h : te (a0 :: a1 :: a2 :: a3 :: a4 :: a5 :: a6 :: a7 :: a8 :: a9 :: a10 :: a11 :: a12 :: a13 :: a14 :: a15 :: some x :: r) H fun y H1 => ti x y H1 fun z H2 => D.nx (a0 :: a1 :: a2 :: a3 :: a4 :: a5 :: a6 :: a7 :: a8 :: a9 :: a10 :: a11 :: a12 :: a13 :: a14 :: a15 :: some z :: r) H2) : tAug 16 te ti D (a0 :: a1 :: a2 :: a3 :: a4 :: a5 :: a6 :: a7 :: a8 :: a9 :: a10 :: a11 :: a12 :: a13 :: a14 :: a15 :: some x :: r) H := ⟨x, rfl, h⟩
theorem v17 {a0 a1 a2 a3 a4 a5 a6 a7 a8 a9 a10 a11 a12 a13 a14 a15 a16 : Option V} (h : Q v H) : tVar 17 (a0 :: a1 :: a2 :: a3 :: a4 :: a5 :: a6 :: a7 :: a8 :: a9 :: a10 :: a11 :: a12 :: a13 :: a14 :: a15 :: a16 :: some v :: r) H Q := ⟨v, rfl, h⟩
theorem n17 {a0 a1 a2 a3 a4 a5 a6 a7 a8 a9 a10 a11 a12 a13 a14 a15 a16 : Option V} {Q : L2.St → Hp → Prop} (h : Q (a0 :: a1 :: a2 :: a3 :: a4 :: a5 :: a6 :: a7 :: a8 :: a9 :: a10 :: a11 :: a12 :: a13 :: a14 :: a15 :: a16 :: some v :: r) H) : gName 17 v (a0 :: a1 :: a2 :: a3 :: a4 :: a5 :: a6 :: a7 :: a8 :: a9 :: a10 :: a11 :: a12 :: a13 :: a14 :: a15 :: a16 :: a :: r) H Q := h
theorem g17 {a0 a1 a2 a3 a4 a5 a6 a7 a8 a9 a10 a11 a12 a13 a14 a15 a16 : Option V} {ti : TIp} (h : te (a0 :: a1 :: a2 :: a3 :: a4 :: a5 :: a6 :: a7 :: a8 :: a9 :: a10 :: a11 :: a12 :: a13 :: a14 :: a15 :: a16 :: some x :: r) H fun y H1 => ti x y H1 fun z H2 => D.nx (a0 :: a1 :: a2 :: a3 :: a4 :: a5 :: a6 :: a7 :: a8 :: a9 :: a10 :: a11 :: a12 :: a13 :: a14 :: a15 :: a16 :: some z :: r) H2) : tAug 17 te ti D (a0 :: a1 :: a2 :: a3 :: a4 :: a5 :: a6 :: a7 :: a8 :: a9 :: a10 :: a11 :: a12 :: a13 :: a14 :: a15 :: a16 :: some x :: r) H := ⟨x, rfl, h⟩
theorem v18 {a0 a1 a2 a3 a4 a5 a6 a7 a8 a9 a10 a11 a12 a13 a14 a15 a16 a17 : Option V} (h : Q v H) : tVar 18 (a0 :: a1 :: a2 :: a3 :: a4 :: a5 :: a6 :: a7 :: a8 :: a9 :: a10 :: a11 :: a12 :: a13 :: a14 :: a15 :: a16 :: a17 :: some v :: r) H Q := ⟨v, rfl, h⟩
theorem n18 {a0 a1 a2 a3 a4 a5 a6 a7 a8 a9 a10 a11 a12 a13 a14 a15 a16 a17 : Option V} {Q : L2.St → Hp → Prop} (h : Q (a0 :: a1 :: a2 :: a3 :: a4 :: a5 :: a6 :: a7 :: a8 :: a9 :: a10 :: a11 :: a12 :: a13 :: a14 :: a15 :: a16 :: a17 :: some v :: r) H) : gName 18 v (a0 :: a1 :: a2 :: a3 :: a4 :: a5 :: a6 :: a7 :: a8 :: a9 :: a10 :: a11 :: a12 :: a13 :: a14 :: a15 :: a16 :: a17 :: a :: r) H Q := h
theorem g18 {a0 a1 a2 a3 a4 a5 a6 a7 a8 a9 a10 a11 a12 a13 a14 a15 a16 a17 : Option V} {ti : TIp} (h : te (a0 :: a1 :: a2 :: a3 :: a4 :: a5 :: a6 :: a7 :: a8 :: a9 :: a10 :: a11 :: a12 :: a13 :: a14 :: a15 :: a16 :: a17 :: some x :: r) H fun y H1 => ti x y H1 fun z H2 => D.nx (a0 :: a1 :: a2 :: a3 :: a4 :: a5 :: a6 :: a7 :: a8 :: a9 :: a10 :: a11 :: a12 :: a13 :: a14 :: a15 :: a16 :: a17 :: some z :: r) H2) : tAug 18 te ti D (a0 :: a1 :: a2 :: a3 :: a4 :: a5 :: a6 :: a7 :: a8 :: a9 :: a10 :: a11 :: a12 :: a13 :: a14 :: a15 :: a16 :: a17 :: some x :: r) H := ⟨x, rfl, h⟩
theorem v19 {a0 a1 a2 a3 a4 a5 a6 a7 a8 a9 a10 a11 a12 a13 a14 a15 a16 a17 a18 : Option V} (h : Q v H) : tVar 19 (a0 :: a1 :: a2 :: a3 :: a4 :: a5 :: a6 :: a7 :: a8 :: a9 :: a10 :: a11 :: a12 :: a13 :: a14 :: a15 :: a16 :: a17 :: a18 :: some v :: r) H Q := ⟨v, rfl, h⟩
theorem n19 {a0 a1 a2 a3 a4 a5 a6 a7 a8 a9 a10 a11 a12 a13 a14 a15 a16 a17 a18 : Option V} {Q : L2.St → Hp → Prop} (h : Q (a0 :: a1 :: a2 :: a3 :: a4 :: a5 :: a6 :: a7 :: a8 :: a9 :: a10 :: a11 :: a12 :: a13 :: a14 :: a15 :: a16 :: a17 :: a18 :: some v :: r) H) : gName 19 v (a0 :: a1 :: a2 :: a3 :: a4 :: a5 :: a6 :: a7 :: a8 :: a9 :: a10 :: a11 :: a12 :: a13 :: a14 :: a15 :: a16 :: a17 :: a18 :: a :: r) H Q := h
theorem g19 {a0 a1 a2 a3 a4 a5 a6 a7 a8 a9 a10 a11 a12 a13 a14 a15 a16 a17 a18 : Option V} {ti : TIp} (h : te (a0 :: a1 :: a2 :: a3 :: a4 :: a5 :: a6 :: a7 :: a8 :: a9 :: a10 :: a11 :: a12 :: a13 :: a14 :: a15 :: a16 :: a17 :: a18 :: some x :: r) H fun y H1 => ti x y H1 fun z H2 => D.nx (a0 :: a1 :: a2 :: a3 :: a4 :: a5 :: a6 :: a7 :: a8 :: a9 :: a10 :: a11 :: a12 :: a13 :: a14 :: a15 :: a16 :: a17 :: a18 :: some z :: r) H2) : tAug 19 te ti D (a0 :: a1 :: a2 :: a3 :: a4 :: a5 :: a6 :: a7 :: a8 :: a9 :: a10 :: a11 :: a12 :: a13 :: a14 :: a15 :: a16 :: a17 :: a18 :: some x :: r) H := ⟨x, rfl, h⟩
theorem v20 {a0 a1 a2 a3 a4 a5 a6 a7 a8 a9 a10 a11 a12 a13 a14 a15 a16 a17 a18 a19 : Option V} (h : Q v H) : tVar 20 (a0 :: a1 :: a2 :: a3 :: a4 :: a5 :: a6 :: a7 :: a8 :: a9 :: a10 :: a11 :: a12 :: a13 :: a14 :: a15 :: a16 :: a17 :: a18 :: a19 :: some v :: r) H Q := ⟨v, rfl, h⟩
theorem n20 {a0 a1 a2 a3 a4 a5 a6 a7 a8 a9 a10 a11 a12 a13 a14 a15 a16 a17 a18 a19 : Option V} {Q : L2.St → Hp → Prop} (h : Q (a0 :: a1 :: a2 :: a3 :: a4 :: a5 :: a6 :: a7 :: a8 :: a9 :: a10 :: a11 :: a12 :: a13 :: a14 :: a15 :: a16 :: a17 :: a18 :: a19 :: some v :: r) H) : gName 20 v (a0 :: a1 :: a2 :: a3 :: a4 :: a5 :: a6 :: a7 :: a8 :: a9 :: a10 :: a11 :: a12 :: a13 :: a14 :: a15 :: a16 :: a17 :: a18 :: a19 :: a :: r) H Q := h
theorem g20 {a0 a1 a2 a3 a4 a5 a6 a7 a8 a9 a10 a11 a12 a13 a14 a15 a16 a17 a18 a19 : Option V} {ti : TIp} (h : te (a0 :: a1 :: a2 :: a3 :: a4 :: a5 :: a6 :: a7 :: a8 :: a9 :: a10 :: a11 :: a12 :: a13 :: a14 :: a15 :: a16 :: a17 :: a18 :: a19 :: some x :: r) H fun y H1 => ti x y H1 fun z H2 => D.nx (a0 :: a1 :: a2 :: a3 :: a4 :: a5 :: a6 :: a7 :: a8 :: a9 :: a10 :: a11 :: a12 :: a13 :: a14 :: a15 :: a16 :: a17 :: a18 :: a19 :: some z :: r) H2) : tAug 20 te ti D (a0 :: a1 :: a2 :: a3 :: a4 :: a5 :: a6 :: a7 :: a8 :: a9 :: a10 :: a11 :: a12 :: a13 :: a14 :: a15 :: a16 :: a17 :: a18 :: a19 :: some x :: r) H := ⟨x, rfl, h⟩
theorem v21 {a0 a1 a2 a3 a4 a5 a6 a7 a8 a9 a10 a11 a12 a13 a14 a15 a16 a17 a18 a19 a20 : Option V} (h : Q v H) : tVar 21 (a0 :: a1 :: a2 :: a3 :: a4 :: a5 :: a6 :: a7 :: a8 :: a9 :: a10 :: a11 :: a12 :: a13 :: a14 :: a15 :: a16 :: a17 :: a18 :: a19 :: a20 :: some v :: r) H Q := ⟨v, rfl, h⟩
theorem n21 {a0 a1 a2 a3 a4 a5 a6 a7 a8 a9 a10 a11 a12 a13 a14 a15 a16 a17 a18 a19 a20 : Option V} {Q : L2.St → Hp → Prop} (h : Q (a0 :: a1 :: a2 :: a3 :: a4 :: a5 :: a6 :: a7 :: a8 :: a9 :: a10 :: a11 :: a12 :: a13 :: a14 :: a15 :: a16 :: a17 :: a18 :: a19 :: a20 :: some v :: r) H) : gName 21 v (a0 :: a1 :: a2 :: a3 :: a4 :: a5 :: a6 :: a7 :: a8 :: a9 :: a10 :: a11 :: a12 :: a13 :: a14 :: a15 :: a16 :: a17 :: a18 :: a19 :: a20 :: a :: r) H Q := h
theorem g21 {a0 a1 a2 a3 a4 a5 a6 a7 a8 a9 a10 a11 a12 a13 a14 a15 a16 a17 a18 a19 a20 : Option V} {ti : TIp} (h : te (a0 :: a1 :: a2 :: a3 :: a4 :: a5 :: a6 :: a7 :: a8 :: a9 :: a10 :: a11 :: a12 :: a13 :: a14 :: a15 :: a16 :: a17 :: a18 :: a19 :: a20 :: some x :: r) H fun y H1 => ti x y H1 fun z H2 => D.nx (a0 :: a1 :: a2 :: a3 :: a4 :: a5 :: a6 :: a7 :: a8 :: a9 :: a10 :: a11 :: a12 :: a13 :: a14 :: a15 :: a16 :: a17 :: a18 :: a19 :: a20 :: some z :: r) H2) : tAug 21 te ti D (a0 :: a1 :: a2 :: a3 :: a4 :: a5 :: a6 :: a7 :: a8 :: a9 :: a10 :: a11 :: a12 :: a13 :: a14 :: a15 :: a16 :: a17 :: a18 :: a19 :: a20 :: some x :: r) H := ⟨x, rfl, h⟩
theorem v22 {a0 a1 a2 a3 a4 a5 a6 a7 a8 a9 a10 a11 a12 a13 a14 a15 a16 a17 a18 a19 a20 a21 : Option V} (h : Q v H) : tVar 22 (a0 :: a1 :: a2 :: a3 :: a4 :: a5 :: a6 :: a7 :: a8 :: a9 :: a10 :: a11 :: a12 :: a13 :: a14 :: a15 :: a16 :: a17 :: a18 :: a19 :: a20 :: a21 :: some v :: r) H Q := ⟨v, rfl, h⟩
theorem n22 {a0 a1 a2 a3 a4 a5 a6 a7 a8 a9 a10 a11 a12 a13 a14 a15 a16 a17 a18 a19 a20 a21 : Option V} {Q : L2.St → Hp → Prop} (h : Q (a0 :: a1 :: a2 :: a3 :: a4 :: a5 :: a6 :: a7 :: a8 :: a9 :: a10 :: a11 :: a12 :: a13 :: a14 :: a15 :: a16 :: a17 :: a18 :: a19 :: a20 :: a21 :: some v :: r) H) : gName 22 v (a0 :: a1 :: a2 :: a3 :: a4 :: a5 :: a6 :: a7 :: a8 :: a9 :: a10 :: a11 :: a12 :: a13 :: a14 :: a15 :: a16 :: a17 :: a18 :: a19 :: a20 :: a21 :: a :: r) H Q := h
theorem g22 {a0 a1 a2 a3 a4 a5 a6 a7 a8 a9 a10 a11 a12 a13 a14 a15 a16 a17 a18 a19 a20 a21 : Option V} {ti : TIp} (h : te (a0 :: a1 :: a2 :: a3 :: a4 :: a5 :: a6 :: a7 :: a8 :: a9 :: a10 :: a11 :: a12 :: a13 :: a14 :: a15 :: a16 :: a17 :: a18 :: a19 :: a20 :: a21 :: some x :: r) H fun y H1 => ti x y H1 fun z H2 => D.nx (a0 :: a1 :: a2 :: a3 :: a4 :: a5 :: a6 :: a7 :: a8 :: a9 :: a10 :: a11 :: a12 :: a13 :: a14 :: a15 :: a16 :: a17 :: a18 :: a19 :: a20 :: a21 :: some z :: r) H2) : tAug 22 te ti D (a0 :: a1 :: a2 :: a3 :: a4 :: a5 :: a6 :: a7 :: a8 :: a9 :: a10 :: a11 :: a12 :: a13 :: a14 :: a15 :: a16 :: a17 :: a18 :: a19 :: a20 :: a21 :: some x :: r) H := ⟨x, rfl, h⟩
theorem v23 {a0 a1 a2 a3 a4 a5 a6 a7 a8 a9 a10 a11 a12 a13 a14 a15 a16 a17 a18 a19 a20 a21 a22 : Option V} (h : Q v H) : tVar 23 (a0 :: a1 :: a2 :: a3 :: a4 :: a5 :: a6 :: a7 :: a8 :: a9 :: a10 :: a11 :: a12 :: a13 :: a14 :: a15 :: a16 :: a17 :: a18 :: a19 :: a20 :: a21 :: a22 :: some v :: r) H Q := ⟨v, rfl, h⟩
theorem n23 {a0 a1 a2 a3 a4 a5 a6 a7 a8 a9 a10 a11 a12 a13 a14 a15 a16 a17 a18 a19 a20 a21 a22 : Option V} {Q : L2.St → Hp → Prop} (h : Q (a0 :: a1 :: a2 :: a3 :: a4 :: a5 :: a6 :: a7 :: a8 :: a9 :: a10 :: a11 :: a12 :: a13 :: a14 :: a15 :: a16 :: a17 :: a18 :: a19 :: a20 :: a21 :: a22 :: some v :: r) H) : gName 23 v (a0 :: a1 :: a2 :: a3 :: a4 :: a5 :: a6 :: a7 :: a8 :: a9 :: a10 :: a11 :: a12 :: a13 :: a14 :: a15 :: a16 :: a17 :: a18 :: a19 :: a20 :: a21 :: a22 :: a :: r) H Q := h
theorem g23 {a0 a1 a2 a3 a4 a5 a6 a7 a8 a9 a10 a11 a12 a13 a14 a15 a16 a17 a18 a19 a20 a21 a22 : Option V} {ti : TIp} (h : te (a0 :: a1 :: a2 :: a3 :: a4 :: a5 :: a6 :: a7 :: a8 :: a9 :: a10 :: a11 :: a12 :: a13 :: a14 :: a15 :: a16 :: a17 :: a18 :: a19 :: a20 :: a21 :: a22 :: some x :: r) H fun y H1 => ti x y H1 fun z H2 => D.nx (a0 :: a1 :: a2 :: a3 :: a4 :: a5 :: a6 :: a7 :: a8 :: a9 :: a10 :: a11 :: a12 :: a13 :: a14 :: a15 :: a16 :: a17 :: a18 :: a19 :: a20 :: a21 :: a22 :: some z :: r) H2) : tAug 23 te ti D (a0 :: a1 :: a2 :: a3 :: a4 :: a5 :: a6 :: a7 :: a8 :: a9 :: a10 :: a11 :: a12 :: a13 :: a14 :: a15 :: a16 :: a17 :: a18 :: a19 :: a20 :: a21 :: a22 :: some x :: r) H := ⟨x, rfl, h⟩
theorem v24 {a0 a1 a2 a3 a4 a5 a6 a7 a8 a9 a10 a11 a12 a13 a14 a15 a16 a17 a18 a19 a20 a21 a22 a23 : Option V} (h : Q v H) : tVar 24 (a0 :: a1 :: a2 :: a3 :: a4 :: a5 :: a6 :: a7 :: a8 :: a9 :: a10 :: a11 :: a12 :: a13 :: a14 :: a15 :: a16 :: a17 :: a18 :: a19 :: a20 :: a21 :: a22 :: a23 :: some v :: r) H Q := ⟨v, rfl, h⟩
theorem n24 {a0 a1 a2 a3 a4 a5 a6 a7 a8 a9 a10 a11 a12 a13 a14 a15 a16 a17 a18 a19 a20 a21 a22 a23 : Option V} {Q : L2.St → Hp → Prop} (h : Q (a0 :: a1 :: a2 :: a3 :: a4 :: a5 :: a6 :: a7 :: a8 :: a9 :: a10 :: a11 :: a12 :: a13 :: a14 :: a15 :: a16 :: a17 :: a18 :: a19 :: a20 :: a21 :: a22 :: a23 :: some v :: r) H) : gName 24 v (a0 :: a1 :: a2 :: a3 :: a4 :: a5 :: a6 :: a7 :: a8 :: a9 :: a10 :: a11 :: a12 :: a13 :: a14 :: a15 :: a16 :: a17 :: a18 :: a19 :: a20 :: a21 :: a22 :: a23 :: a :: r) H Q := h
theorem g24 {a0 a1 a2 a3 a4 a5 a6 a7 a8 a9 a10 a11 a12 a13 a14 a15 a16 a17 a18 a19 a20 a21 a22 a23 : Option V} {ti : TIp} (h : te (a0 :: a1 :: a2 :: a3 :: a4 :: a5 :: a6 :: a7 :: a8 :: a9 :: a10 :: a11 :: a12 :: a13 :: a14 :: a15 :: a16 :: a17 :: a18 :: a19 :: a20 :: a21 :: a22 :: a23 :: some x :: r) H fun y H1 => ti x y H1 fun z H2 => D.nx (a0 :: a1 :: a2 :: a3 :: a4 :: a5 :: a6 :: a7 :: a8 :: a9 :: a10 :: a11 :: a12 :: a13 :: a14 :: a15 :: a16 :: a17 :: a18 :: a19 :: a20 :: a21 :: a22 :: a23 :: some z :: r) H2) : tAug 24 te ti D (a0 :: a1 :: a2 :: a3 :: a4 :: a5 :: a6 :: a7 :: a8 :: a9 :: a10 :: a11 :: a12 :: a13 :: a14 :: a15 :: a16 :: a17 :: a18 :: a19 :: a20 :: a21 :: a22 :: a23 :: some x :: r) H := ⟨x, rfl, h⟩
theorem v25 {a0 a1 a2 a3 a4 a5 a6 a7 a8 a9 a10 a11 a12 a13 a14 a15 a16 a17 a18 a19 a20 a21 a22 a23 a24 : Option V} (h : Q v H) : tVar 25 (a0 :: a1 :: a2 :: a3 :: a4 :: a5 :: a6 :: a7 :: a8 :: a9 :: a10 :: a11 :: a12 :: a13 :: a14 :: a15 :: a16 :: a17 :: a18 :: a19 :: a20 :: a21 :: a22 :: a23 :: a24 :: some v :: r) H Q := ⟨v, rfl, h⟩
theorem n25 {a0 a1 a2 a3 a4 a5 a6 a7 a8 a9 a10 a11 a12 a13 a14 a15 a16 a17 a18 a19 a20 a21 a22 a23 a24 : Option V} {Q : L2.St → Hp → Prop} (h : Q (a0 :: a1 :: a2 :: a3 :: a4 :: a5 :: a6 :: a7 :: a8 :: a9 :: a10 :: a11 :: a12 :: a13 :: a14 :: a15 :: a16 :: a17 :: a18 :: a19 :: a20 :: a21 :: a22 :: a23 :: a24 :: some v :: r) H) : gName 25 v (a0 :: a1 :: a2 :: a3 :: a4 :: a5 :: a6 :: a7 :: a8 :: a9 :: a10 :: a11 :: a12 :: a13 :: a14 :: a15 :: a16 :: a17 :: a18 :: a19 :: a20 :: a21 :: a22 :: a23 :: a24 :: a :: r) H Q := h
theorem g25 {a0 a1 a2 a3 a4 a5 a6 a7 a8 a9 a10 a11 a12 a13 a14 a15 a16 a17 a18 a19 a20 a21 a22 a23 a24 : Option V} {ti : TIp} (h : te (a0 :: a1 :: a2 :: a3 :: a4 :: a5 :: a6 :: a7 :: a8 :: a9 :: a10 :: a11 :: a12 :: a13 :: a14 :: a15 :: a16 :: a17 :: a18 :: a19 :: a20 :: a21 :: a22 :: a23 :: a24 :: some x :: r) H fun y H1 => ti x y H1 fun z H2 => D.nx (a0 :: a1 :: a2 :: a3 :: a4 :: a5 :: a6 :: a7 :: a8 :: a9 :: a10 :: a11 :: a12 :: a13 :: a14 :: a15 :: a16 :: a17 :: a18 :: a19 :: a20 :: a21 :: a22 :: a23 :: a24 :: some z :: r) H2) : tAug 25 te ti D (a0 :: a1 :: a2 :: a3 :: a4 :: a5 :: a6 :: a7 :: a8 :: a9 :: a10 :: a11 :: a12 :: a13 :: a14 :: a15 :: a16 :: a17 :: a18 :: a19 :: a20 :: a21 :: a22 :: a23 :: a24 :: some x :: r) H := ⟨x, rfl, h⟩
theorem v26 {a0 a1 a2 a3 a4 a5 a6 a7 a8 a9 a10 a11 a12 a13 a14 a15 a16 a17 a18 a19 a20 a21 a22 a23 a24 a25 : Option V} (h : Q v H) : tVar 26 (a0 :: a1 :: a2 :: a3 :: a4 :: a5 :: a6 :: a7 :: a8 :: a9 :: a10 :: a11 :: a12 :: a13 :: a14 :: a15 :: a16 :: a17 :: a18 :: a19 :: a20 :: a21 :: a22 :: a23 :: a24 :: a25 :: some v :: r) H Q := ⟨v, rfl, h⟩
theorem n26 {a0 a1 a2 a3 a4 a5 a6 a7 a8 a9 a10 a11 a12 a13 a14 a15 a16 a17 a18 a19 a20 a21 a22 a23 a24 a25 : Option V} {Q : L2.St → Hp → Prop} (h : Q (a0 :: a1 :: a2 :: a3 :: a4 :: a5 :: a6 :: a7 :: a8 :: a9 :: a10 :: a11 :: a12 :: a13 :: a14 :: a15 :: a16 :: a17 :: a18 :: a19 :: a20 :: a21 :: a22 :: a23 :: a24 :: a25 :: some v :: r) H) : gName 26 v (a0 :: a1 :: a2 :: a3 :: a4 :: a5 :: a6 :: a7 :: a8 :: a9 :: a10 :: a11 :: a12 :: a13 :: a14 :: a15 :: a16 :: a17 :: a18 :: a19 :: a20 :: a21 :: a22 :: a23 :: a24 :: a25 :: a :: r) H Q := h
theorem g26 {a0 a1 a2 a3 a4 a5 a6 a7 a8 a9 a10 a11 a12 a13 a14 a15 a16 a17 a18 a19 a20 a21 a22 a23 a24 a25 : Option V} {ti : TIp} (h : te (a0 :: a1 :: a2 :: a3 :: a4 :: a5 :: a6 :: a7 :: a8 :: a9 :: a10 :: a11 :: a12 :: a13 :: a14 :: a15 :: a16 :: a17 :: a18 :: a19 :: a20 :: a21 :: a22 :: a23 :: a24 :: a25 :: some x :: r) H fun y H1 => ti x y H1 fun z H2 => D.nx (a0 :: a1 :: a2 :: a3 :: a4 :: a5 :: a6 :: a7 :: a8 :: a9 :: a10 :: a11 :: a12 :: a13 :: a14 :: a15 :: a16 :: a17 :: a18 :: a19 :: a20 :: a21 :: a22 :: a23 :: a24 :: a25 :: some z :: r) H2) : tAug 26 te ti D (a0 :: a1 :: a2 :: a3 :: a4 :: a5 :: a6 :: a7 :: a8 :: a9 :: a10 :: a11 :: a12 :: a13 :: a14 :: a15 :: a16 :: a17 :: a18 :: a19 :: a20 :: a21 :: a22 :: a23 :: a24 :: a25 :: some x :: r) H := ⟨x, rfl, h⟩
theorem v27 {a0 a1 a2 a3 a4 a5 a6 a7 a8 a9 a10 a11 a12 a13 a14 a15 a16 a17 a18 a19 a20 a21 a22 a23 a24 a25 a26 : Option V} (h : Q v H) : tVar 27 (a0 :: a1 :: a2 :: a3 :: a4 :: a5 :: a6 :: a7 :: a8 :: a9 :: a10 :: a11 :: a12 :: a13 :: a14 :: a15 :: a16 :: a17 :: a18 :: a19 :: a20 :: a21 :: a22 :: a23 :: a24 :: a25 :: a26 :: some v :: r) H Q := ⟨v, rfl, h⟩
theorem n27 {a0 a1 a2 a3 a4 a5 a6 a7 a8 a9 a10 a11 a12 a13 a14 a15 a16 a17 a18 a19 a20 a21 a22 a23 a24 a25 a26 : Option V} {Q : L2.St → Hp → Prop} (h : Q (a0 :: a1 :: a2 :: a3 :: a4 :: a5 :: a6 :: a7 :: a8 :: a9 :: a10 :: a11 :: a12 :: a13 :: a14 :: a15 :: a16 :: a17 :: a18 :: a19 :: a20 :: a21 :: a22 :: a23 :: a24 :: a25 :: a26 :: some v :: r) H) : gName 27 v (a0 :: a1 :: a2 :: a3 :: a4 :: a5 :: a6 :: a7 :: a8 :: a9 :: a10 :: a11 :: a12 :: a13 :: a14 :: a15 :: a16 :: a17 :: a18 :: a19 :: a20 :: a21 :: a22 :: a23 :: a24 :: a25 :: a26 :: a :: r) H Q := h
theorem g27 {a0 a1 a2 a3 a4 a5 a6 a7 a8 a9 a10 a11 a12 a13 a14 a15 a16 a17 a18 a19 a20 a21 a22 a23 a24 a25 a26 : Option V} {ti : TIp} (h : te (a0 :: a1 :: a2 :: a3 :: a4 :: a5 :: a6 :: a7 :: a8 :: a9 :: a10 :: a11 :: a12 :: a13 :: a14 :: a15 :: a16 :: a17 :: a18 :: a19 :: a20 :: a21 :: a22 :: a23 :: a24 :: a25 :: a26 :: some x :: r) H fun y H1 => ti x y H1 fun z H2 => D.nx (a0 :: a1 :: a2 :: a3 :: a4 :: a5 :: a6 :: a7 :: a8 :: a9 :: a10 :: a11 :: a12 :: a13 :: a14 :: a15 :: a16 :: a17 :: a18 :: a19 :: a20 :: a21 :: a22 :: a23 :: a24 :: a25 :: a26 :: some z :: r) H2) : tAug 27 te ti D (a0 :: a1 :: a2 :: a3 :: a4 :: a5 :: a6 :: a7 :: a8 :: a9 :: a10 :: a11 :: a12 :: a13 :: a14 :: a15 :: a16 :: a17 :: a18 :: a19 :: a20 :: a21 :: a22 :: a23 :: a24 :: a25 :: a26 :: some x :: r) H := ⟨x, rfl, h⟩
end Rd

set_option Elab.async false
set_option linter.all false
set_option maxRecDepth 100000
namespace Rd
open PySem PySem.Spec PyProof.Rows L2
variable {K : PySem.W.Frag} {σ : L2.St} {H : Hp} {D : Ends} {Q : VK} {ta tb te tv : TE} {x y v : V} {tr : TA} {f m : Str} {C : Addr} {sp : Sp} {dvs : List V} {E : XK}
/-! ### objects of own classes -/
def FldG (K : PySem.W.Frag) (x : V) (f : Str) (Q : VK) (H : Hp) : Prop := ∃ a C dx fs v, x = .ref a ∧ H a = some (.ins C dx fs) ∧ Cls K C ∧ NoAttr K C f ∧ fs.lookup f = some v ∧ Q v H
theorem fld (h : te σ H fun x H1 => FldG K x f Q H1) : tFld K te f σ H Q := h
theorem fldI {a dx : Addr} {fs : List (Str × V)} (h : H a = some (.ins C dx fs)) (c : Cls K C) (n : NoAttr K C f) (e : fs.lookup f = some v) (q : Q v H) : FldG K (.ref a) f Q H := ⟨a, C, dx, fs, v, rfl, h, c, n, e, q⟩
def SfG (K : PySem.W.Frag) (x : V) (f : Str) (y : V) (D : Ends) (σ : L2.St) (H : Hp) : Prop := ∃ a C dx fs, x = .ref a ∧ H a = some (.ins C dx fs) ∧ Cls K C ∧ NoAttr K C f ∧ fs.length < 1000 ∧ D.nx σ (upd H a (.ins C dx (putF f y fs)))
theorem sfld (h : tv σ H fun y H1 => ta σ H1 fun x H2 => SfG K x f y D σ H2) : sFld K ta tv f D σ H := h
theorem sfldI {a dx : Addr} {fs : List (Str × V)} (h : H a = some (.ins C dx fs)) (c : Cls K C) (n : NoAttr K C f) (l : fs.length < 1000) (q : D.nx σ (upd H a (.ins C dx (putF f y fs)))) : SfG K (.ref a) f y D σ H := ⟨a, C, dx, fs, rfl, h, c, n, l, q⟩
def MtG (C : Addr) (m : Str) (sp : Sp) (dvs : List V) (E : XK) (t : TA) (σ : L2.St) (Q : VK) (x : V) (H : Hp) : Prop := ∃ a dx fs, x = .ref a ∧ H a = some (.ins C dx fs) ∧ fs.lookup m = none ∧ t σ H fun vs H2 => sp (x :: (vs ++ dvs)) H2 Q E
theorem meth (h : ta σ H fun x H1 => MtG C m sp dvs E tr σ Q x H1) : tMeth C m sp dvs E ta tr σ H Q := h
theorem methI {a dx : Addr} {fs : List (Str × V)} (h : H a = some (.ins C dx fs)) (n : fs.lookup m = none) (q : tr σ H fun vs H2 => sp (.ref a :: (vs ++ dvs)) H2 Q E) : MtG C m sp dvs E tr σ Q (.ref a) H := ⟨a, dx, fs, rfl, h, n, q⟩
def MkG (C : Addr) (sp : Sp) (dvs : List V) (E : XK) (Q : VK) (vs : List V) (H1 : Hp) : Prop := ∀ x dx, H1 x = none → H1 dx = none → dx ≠ x → sp (.ref x :: (vs ++ dvs)) (upd (upd H1 dx (.own x)) x (.ins C dx [])) (fun v H2 => v = .non ∧ Q (.ref x) H2) E
theorem make (h : tr σ H fun vs H1 => MkG C sp dvs E Q vs H1) : tMake C sp dvs E tr σ H Q := h
theorem popI {l : Addr} {xs : List V} (h : H l = some (.lst xs)) (e : xs[xs.length - 1]? = some y) (q : Q y (upd H l (.lst xs.dropLast))) : rPop (.ref l) [] H Q := ⟨l, xs, y, rfl, rfl, h, e, q⟩
theorem maxL {a : Addr} {ns : List Int} (h : H a = some (.lst (ns.map V.int))) (l : 0 < ns.length) (q : ∀ m, m ∈ ns → (∀ y, y ∈ ns → y ≤ m) → Q (.int m) H) : rMax K [.ref a] H Q := ⟨a, ns, rfl, SqL.of h, l, q⟩
theorem anyL {a : Addr} {bs : List Bool} (h : H a = some (.lst (bs.map V.bl))) (q : Q (.bl (bs.any id)) H) : rAny K [.ref a] H Q := ⟨a, bs, rfl, SqL.of h, q⟩
theorem sumL {a : Addr} {ns : List Int} (h : H a = some (.lst (ns.map V.int))) (q : Q (.int ns.sum) H) : rSum K [.ref a] H Q := ⟨a, ns, rfl, SqL.of h, q⟩
variable {R : It → Hp → Prop}
theorem izip (h : tr σ H fun vs H1 => ∃ a b xs ys, vs = [.ref a, .ref b] ∧ ((SqL K H1 a xs ∧ SqL K H1 b ys ∧ R (Itz K a b) H1) ∨ (SqT K H1 a xs ∧ SqT K H1 b ys ∧ R (RZ.ItzT K a b) H1))) : RZ.iZipA K tr σ H R := h
theorem izI {a b : Addr} {xs ys : List V} {A : Addr → Addr → Prop} {B : Addr → Addr → Prop} (h1 : H a = some (.lst xs)) (h2 : H b = some (.lst ys)) (q : A a b) : ∃ a' b' xs ys, [V.ref a, .ref b] = [.ref a', .ref b'] ∧ ((SqL K H a' xs ∧ SqL K H b' ys ∧ A a' b') ∨ (SqT K H a' xs ∧ SqT K H b' ys ∧ B a' b')) := ⟨a, b, xs, ys, rfl, .inl ⟨SqL.of h1, SqL.of h2, q⟩⟩
end Rd

set_option Elab.async false
set_option linter.all false
set_option maxRecDepth 100000
namespace L2
open PySem PySem.Spec PyProof.Rows
/-! an own object, and a method, whose def may raise, within a try's body -/
section
variable {X : Cx} {CX : CXT} {lv : Nat} {fa cA : Addr} {fd : FuncData} {pn : List Str} {sp : Sp} {nm mm : Str} {p1 p2 p3 : Pos} {e1 oe : Expr} {er : List Expr} {to' : TE} {tr : TA}
theorem mkS_run {EE : XK} {pins : List (Addr × Obj)} {σ : St} {H : Hp} {s : Shared} {Q : VK} {us : List Value} {vs : List V}
    (M : Mk X.K cA fa) (F : FnOk X.prog X.w X.K X.mg X.base CX lv fa fd pn sp) (rm : Room (lv + 1) X.A)
    (bi : Binds X.K fd pn []) (out : PassesAt CX X σ EE) (I : Inv X pins σ H s) (r : Vals vs us)
    (h : ∀ x dx, H x = none → H dx = none → dx ≠ x →
      sp (.ref x :: vs) (upd (upd H dx (.own x)) x (.ins cA dx [])) (fun v H2 => v = .non ∧ Q (.ref x) H2) EE) :
    wpAny (model X.prog X.w) X.A (call (.ref cA) us) (EP X pins σ Q) X.xe s := by
  have J := Inv.made (C := cA) I
  obtain ⟨n, en⟩ : ∃ n, n = s.heap.objs.size := ⟨_, rfl⟩
  have q0 := h _ _ (I.hok.fresh (Nat.le_succ _)) (I.hok.fresh (Nat.le_refl _)) (Nat.ne_of_lt (Nat.lt_succ_self _))
  have rr : Vals (V.ref (s.heap.objs.size + 1) :: vs) (Value.ref (s.heap.objs.size + 1) :: us) := .cons rfl r
  have ln : (Value.ref (s.heap.objs.size + 1) :: us).length = pn.length :=
    rr.length.symm.trans (F.len _ _ _ _ q0)
  have bb := bi _ (Value.ref (s.heap.objs.size + 1) :: us) J.kIn (by rw [List.append_nil]; exact ln)
  rw [List.append_nil] at bb
  have run := F.run _ X.stack _ _ ⟨Value.ref (s.heap.objs.size + 1) :: us, []⟩ _ _ _ EE
    (rm.make cA us []) (J.env0.make cA us []) bb rr q0
  refine wpAny_call (make_map (f := fa) I.kIn M.makes M.init (beq_iff_eq.mp M.fn) (codeAny_mono run fun res s' got => ?_))
  match res, got with
  | .error e, got => exact out pins _ _ e s' J got
  | .ok (.ret u), got =>
    obtain ⟨v, H', J3, rv, ev, q3⟩ := J.after got
    rw [ev] at rv
    exact ⟨rv, V.ref (s.heap.objs.size + 1), H', J3, rfl, q3⟩
  | .ok .next, got => cases got
  | .ok .brk, got => cases got
  | .ok .cont, got => cases got
def tMakeS (C : Addr) (sp : Sp) (E : St → XK) (t : TA) : TE := fun σ H Q => t σ H fun vs H1 => ∀ x dx, H1 x = none → H1 dx = none → dx ≠ x →
  sp (.ref x :: vs) (upd (upd H1 dx (.own x)) x (.ins C dx [])) (fun v H2 => v = .non ∧ Q (.ref x) H2) (E σ)
theorem pe_makeS {EE : St → XK} (M : Mk X.K cA fa) (F : FnOk X.prog X.w X.K X.mg X.base CX lv fa fd pn sp)
    (rm : Room (lv + 1) X.A) (hg : Gl X nm) (hm : X.mg nm = some (.ref cA)) (bi : Binds X.K fd pn [])
    (out : ∀ σ, PassesAt CX X σ (EE σ)) (ha : PA X (e1 :: er) tr) (nd : (nm == ("__debug__" : Str)) = false := by decide)
    (t1 : starEach (e1 :: er) X.env = (false, eval e1 X.env) :: starEach er X.env := by rfl)
    (t2 : (backTo p2 (starEach er X.env)).any (·.1) = false := by rfl) :
    PE X (.Call (.Name nm p1) (e1 :: er) [] p2) (tMakeS cA sp EE tr) := by
  constructor
  intro pins s σ H Q I h
  refine wpAny_Call_Name_kw (ld_glob I hg hm (PySem.W.callWith_K (h₀ := X.base) I.ok.mod.kin M.kp ?_ t1 t2) nd)
  exact thn (ha.run p2 pins s σ H _ I h) fun us s1 ⟨vs, H1, I1, r, q⟩ => ⟨I1.kIn, mkS_run M F rm bi (out σ) I1 r q⟩
def tMethX (C : Addr) (m : Str) (sp : Sp) (E : St → XK) (ta : TE) (t : TA) : TE := fun σ H Q => ta σ H fun x H1 => ∃ a dx fs, x = .ref a ∧ H1 a = some (.ins C dx fs) ∧ fs.lookup m = none ∧
  t σ H1 fun vs H2 => sp (x :: vs) H2 Q (E σ)
theorem pe_methX {EE : St → XK} {pl : Sem Bool} (ho : PE X oe to') (c : Cls X.K cA) (hm : Meth X.K cA mm fa)
    (F : FnOk X.prog X.w X.K X.mg X.base CX lv fa fd pn sp) (rm : Room lv X.A) (bi : Binds X.K fd pn [])
    (out : ∀ σ, PassesAt CX X σ (EE σ)) (ha : PA X (e1 :: er) tr)
    (t1 : starEach (e1 :: er) X.env = (false, eval e1 X.env) :: starEach er X.env := by rfl)
    (t2 : (backTo p2 (starEach er X.env)).any (·.1) = false := by rfl)
    (ev : eval (.Call (.Attribute oe mm p3) (e1 :: er) [] p2) X.env = (do
      let ov ← eval oe X.env
      standAt p3.atName
      let (f, first) ← holding [ov] (getMethod ov mm pl)
      callWith p2 f first (backTo p2 (starEach (e1 :: er) X.env)) (backToKw p2 (keywordEach [] X.env))) := by rfl) :
    PE X (.Call (.Attribute oe mm p3) (e1 :: er) [] p2) (tMethX cA mm sp EE to' tr) := by
  constructor
  intro pins s σ H Q I h
  refine PySem.W.methodCall_KW (pl := pl) (thn (ho.run pins s σ H _ I h) fun u s1 got => ?_) ev
  obtain ⟨x, H1, I1, rx, a, dx, fs, rfl, ea, l, q⟩ := got
  cases (show u = Value.ref a from rx)
  refine getmeth_ok I1 ea c hm l (PySem.W.callWith_K (first := [.ref a]) (h₀ := X.base) I.ok.mod.kin hm.kp ?_ t1 t2)
  exact thn (ha.run p2 pins s1 σ H1 _ I1 q) fun us s2 ⟨vs, H2, I2, r, q2⟩ => ⟨I2.kIn, run_fnS (us := .ref a :: us) (vs := .ref a :: vs) F rm bi (out σ) I2 (.cons rfl r) q2⟩
end
end L2

set_option Elab.async false
set_option linter.all false
set_option maxRecDepth 100000
namespace L2
open PySem PySem.Spec PySem.Calls PyProof.Rows
/-! an own object without a == of its own, against an integer -/
theorem int_eq_declines_ins (b : Int) (u : Tok) (a C dx : Addr) :
    Meets (Builtin.«int.__eq__» ⟨[.int b u, .ref a], []⟩) (fun _ R s => s.heap.get? a = some (PySem.W.instObj C dx) ∧ R (.ok (.ret .notImplemented)) s) :=
  .of_wp fun prog w A R s h => by
    obtain ⟨hp, g, d, tk, os⟩ := s
    obtain ⟨hl, h⟩ := h
    unfold PySem.W.instObj at hl
    wp_walk using wpAny_loadPart' hl, wpAny_load hl
    exact ⟨_, rfl, h⟩
section
variable {prog : Program} {w : World} {A : Around} {E : Value → Shared → Prop} {s : Shared} {K : PySem.W.Frag} {x C dx : Addr} {od : Option Obj}
theorem ifBound_B {name : Str} {id : String} {args : List Value} {Q : Option Value → Shared → Prop} (X : K.In s.heap) (I : PySem.W.InstAt s.heap x (PySem.W.instObj C dx) C od)
    (hs : PySem.W.findIn K (.ref C) name = some (some (.builtin id))) (hb : ∀ self, bindSpecial (.builtin id) self = pure (.builtin id, [self]))
    (h : wpAny (model prog w) A (call (.builtin id) (.ref x :: args)) (fun v => Q (some v)) E s) : wpAny (model prog w) A (callSpecialIfBound? (.ref x) name args) Q E s := by
  simp only [callSpecialIfBound?, bindSpecialIfBound?]
  refine wpAny_holding (wpAny_bind (wpAny_bind (wpAny_bind (I.type.here ((PySem.W.looks_findIn X hs).here ?_)))))
  simp only [hb]
  refine wpAny_bind (wpAny_askSetting (wpAny_ite ?_))
  have fin : wpAny (model prog w) A (call (.builtin id) ([.ref x] ++ args) >>= fun v => pure (some v)) Q E s := wpAny_bind (wpAny_mono h (fun v s' h' => wpAny_pure h') fun _ _ h' => h')
  split
  · exact wpAny_bind (wpAny_pure (by exact wpAny_pure fin))
  · exact wpAny_tryCatch (wpAny_bind (wpAny_pure (by exact wpAny_pure fin)))
theorem call_objEq_int {n : Int} {t : Tok} {Q : Value → Shared → Prop} (X : K.In s.heap) (I : PySem.W.InstAt s.heap x (PySem.W.instObj C dx) C od)
    (ho : PySem.W.mroIn K C (.type "object") = some true) (hq : Q .notImplemented s) :
    wpAny (model prog w) A (call (.builtin "object.__eq__") [.ref x, .int n t]) Q E s := by
  refine wpAny_call (codeAny_call_builtin F.cmp_object.eq.plain F.cmpEntry_eq ?_)
  simp only [checkBuiltinCall, F.cmpKind_eq, F.cmpSplit_eq]
  refine wpAny_bind ?_
  unfold isInstance
  refine wpAny_bind (I.type.here ((PySem.W.looks_subIn (t := .ref C) X ho).here ?_))
  have body : wpAny (model prog w) A.in1 (Builtin.«object.__eq__» ⟨[.ref x, .int n t], []⟩) (fun fin s' => fin = .done (.ret .notImplemented) ∧ s' = s) E s := by
    unfold Builtin.«object.__eq__»
    have q : isSame (.ref x) (.int n t) = pure false := rfl
    repeat (first | rw [q] | wp_step)
    exact ⟨rfl, rfl⟩
  have fin : wpAny (model prog w) A.in1 (Builtin.«object.__eq__» ⟨[.ref x, .int n t], []⟩) (fun fin s' => match fin with
      | .done f => (match (Except.ok f : Result) with | .ok (.ret v) => Q v s' | .ok _ => False | .error e => E e s')
      | .again c' => c'.quiet = true ∧ codeAny (model prog w) A c' (fun r s' => match r with | .ok (.ret v) => Q v s' | .ok _ => False | .error e => E e s') s') (fun e s' => E e s') s :=
    wpAny_mono body (fun f s' h => by obtain ⟨rfl, rfl⟩ := h; exact hq) (fun _ _ e => e)
  cases hsig : Manifest.signature? "object.__eq__" with
  | none => exact wpAny_pure fin
  | some sig =>
    have ha := F.cmpArgs_eq (.ref x) (.int n t)
    simp only [argsOk, hsig] at ha
    have h2 : Bind.checkArgs "object.__eq__" sig ⟨[.ref x, .int n t], []⟩ = pure () := ha
    show wpAny (model prog w) A.in1 (Bind.checkArgs "object.__eq__" sig ⟨[.ref x, .int n t], []⟩) _ _ s
    rw [h2]
    exact wpAny_pure fin
theorem richCompare_inst_int {n : Int} {t : Tok} {Q : Value → Shared → Prop} (hu : A.units < cLine) (X : K.In s.heap) (I : PySem.W.InstAt s.heap x (PySem.W.instObj C dx) C od)
    (hs : PySem.W.findIn K (.ref C) "__eq__" = some (some (.builtin "object.__eq__"))) (ho : PySem.W.mroIn K C (.type "object") = some true)
    (hn : PySem.W.subIn K (.type "int") (.ref C) = some false) (hq : Q (.bool false) s) : wpAny (model prog w) A (richCompare .Eq (.ref x) (.int n t)) Q E s := by
  unfold richCompare
  simp only [oneThing_ref]
  refine wpAny_holding (wpAny_bind (wpAny_cRoomFor hu ?_))
  refine wpAny_bind (I.type.here (wpAny_bind (wpAny_typeOf (typeIs_int s n t) ?_)))
  have e1 : (Value.ref C != Value.type "int") = true := by rfl
  simp only [e1, if_true]
  refine wpAny_bind ((PySem.W.looks_subIn X hn).here ?_)
  simp only [Bool.false_eq_true, if_false, Bool.not_false, if_true]
  refine wpAny_bind (m := tryCompare (.ref x) _ (.int n t)) ?_
  unfold tryCompare
  refine wpAny_bind (ifBound_B X I hs F.cmp_object.eq.bind (call_objEq_int X I ho ?_))
  refine wpAny_pure ?_
  refine wpAny_bind (m := tryCompare (.int n t) _ (.ref x)) (wpAny_tryCompare_declines (typeIs_int s n t) F.slot_int_eq_refl (call_meets F.slot_int_eq_refl (typeIs_int s n t) F.entry_int_eq (F.args_int_eq_2 _ _) (int_eq_declines_ins n t x C dx) ⟨I.at_, rfl, ?_⟩))
  exact wpAny_bind (wpAny_rule (wpAny_bind (wpAny_of_eq (rfl : isSame (.ref x) (.int n t) = pure false) (wpAny_pure hq))))
end
structure ClsEq (K : PySem.W.Frag) (C : Addr) : Prop where
  eq : PySem.W.findIn K (.ref C) "__eq__" = some (some (.builtin "object.__eq__"))
  ob : PySem.W.mroIn K C (.type "object") = some true
  nt : PySem.W.subIn K (.type "int") (.ref C) = some false
section
variable {X : Cx}
def rEqOI (C : Addr) : R2 := fun x y H Q => ∃ (a dx : Addr) (fs : List (Str × V)) (i : Int), x = .ref a ∧ y = .int i ∧ H a = some (.ins C dx fs) ∧ Q (.bl false) H
theorem op_eqOI {C : Addr} (q : ClsEq X.K C) (hu : X.A.units < cLine) : OpR X (compareOp .Eq) (rEqOI C) := by
  intro pins s σ H x y v u Q I rx ry h
  obtain ⟨a, dx, fs, i, rfl, rfl, ha, hq⟩ := h
  cases (show v = Value.ref a from rx)
  obtain ⟨t, rfl⟩ := ry
  obtain ⟨mA, J, _⟩ := ins_get I.hok ha
  obtain ⟨od, J, _⟩ := J.look
  exact richCompare_inst_int hu I.kIn J q.eq q.ob q.nt ⟨.bl false, H, I, rfl, hq⟩
/-! ### len(set(xs)) for any ints -/
def distinct (ns : List Int) : Nat := (firstMet (fun i => ns.getD i 0) ns.length).length
theorem distinct_nodup {ns : List Int} (h : ns.Nodup) : distinct ns = ns.length := by
  unfold distinct
  rw [firstMet_nodup ns h ns.length (Nat.le_refl _), List.take_length]
theorem distinct_two {x : Int} : distinct [x, x] = 1 := by
  simp [distinct, firstMet, step_dedup, List.range_succ]
def tLenSetD (K : PySem.W.Frag) (ta : TE) : TE := fun σ H Q => ta σ H fun x H1 => ∃ (l : Addr) (ns : List Int), x = V.ref l ∧ SqL K H1 l (ns.map V.int) ∧ ns.length < 64 ∧ Q (.int (distinct ns)) H1
theorem pe_lenSetD {a : Expr} {ta : TE} {p p2 q pos : Pos} (hc : X.calm = true) (hg : Gl X "len") (hm : X.mg "len" = none) (hg2 : Gl X "set") (hm2 : X.mg "set" = none) (ha : PE X a ta)
    (na : starEach [a] X.env = (false, eval a X.env) :: starEach [] X.env := by rfl) : PE X (.Call (.Name "len" p) [.Call (.Name "set" p2) [a] [] q] [] pos) (tLenSetD X.K ta) := by
  refine ⟨fun pins s σ H Q I h => ?_⟩
  refine Call_ (ld_blt I hg hm PySem.boot_len ?_)
  refine PyProof.Rows.callWith_builtin1 (PyProof.Rows.args_cons ?_ rfl) rfl rfl
  refine Call_ (ld_blt I hg2 hm2 PyProof.Rows.boot_set ?_)
  refine PyProof.Rows.callWith_type1 (PyProof.Rows.args_cons (thn (ha.run pins s σ H _ I h) fun v s1 ⟨x, H1, I1, r1, q1⟩ => PyProof.Rows.args_nil ?_) na) na rfl
  obtain ⟨l, ns, rfl, hq, h1, q1⟩ := q1
  cases r1
  obtain ⟨its, r, pl, hz⟩ := I1.list hq
  have hl : its.toArray.size = ns.length := by rw [List.size_toArray, ← r.length, List.length_map]
  refine call_set_list (I1.ok.hd hc) pl.isList (ns := ns) (by simpa using r.ints) (by unfold scanBound; omega) fun h' tk hS hk => ?_
  rw [hl] at hS
  refine PyProof.Rows.args_nil ?_
  obtain ⟨o, es, ep, t, ho, hex, hd, _, _, _, hf, hn⟩ := hS
  have I2 : Inv X pins σ H1 { s1 with heap := h', toks := tk } := I1.kept fun b o e => hk b o (Heap.lt_size e) e
  have dl : (firstMet (fun i => ns.getD i 0) ns.length).length < 64 := Nat.lt_of_le_of_lt (firstMet_length_le _ _) h1
  refine call_len_set ho hex hd hf (by rw [hn] <;> omega) ⟨.int (distinct ns), H1, I2.tok _, ⟨_, by rw [hn]; rfl⟩, q1⟩
end
theorem for_enum {K : PySem.W.Frag} {a : Addr} {xs : List V} {g : TG} {tb : TS} {D : Ends} {σ : St} {H : Hp} (Pv : Nat → St → Hp → Prop) (h0 : Pv 0 σ H) (hl : ∀ i σ H, i ≤ xs.length → Pv i σ H → SqL K H a xs)
    (hs : ∀ (i : Nat) x T σ H, xs[i]? = some x → Pv i σ H → H T = none → g (.ref T) σ (upd H T (.tup [.int i, x])) fun σ2 H2 => tb { D with nx := Pv (i + 1), ct := Pv (i + 1), bk := D.nx } σ2 H2) (hd : ∀ σ H, Pv xs.length σ H → D.nx σ H) :
    ∃ W : Nat → Nat → St → Hp → Prop, (∃ m, W 0 m σ H) ∧ ∀ i m σ H, W i m σ H →
      ((Ite K a).stop i H ∧ D.nx σ H) ∨ ((Ite K a).go i H ∧ ∃ N : St → Hp → Prop, (∀ σ' H', N σ' H' → ∃ m', m' < m ∧ W (i + 1) m' σ' H') ∧ ∀ x H', (Ite K a).yld i H x H' → g x σ H' fun σ2 H2 => tb { D with nx := N, ct := N, bk := D.nx } σ2 H2) := by
  refine ⟨fun i m σ H => m = xs.length - i ∧ i ≤ xs.length ∧ Pv i σ H, ⟨xs.length, by simp, Nat.zero_le _, h0⟩, ?_⟩
  rintro i m σ H ⟨rfl, hi, p⟩
  have q := hl i σ H hi p
  by_cases hlt : i < xs.length
  · refine .inr ⟨⟨xs, xs[i], q, by simp [hlt]⟩, Pv (i + 1), fun σ' H' p' => ⟨xs.length - (i + 1), by omega, rfl, hlt, p'⟩, fun x H' y => ?_⟩
    obtain ⟨T, v, rfl, n, rfl, y⟩ := y
    exact hs i v T σ H (y xs q) p n
  · have e : i = xs.length := by omega
    subst e
    exact .inl ⟨⟨xs, q, Nat.le_refl _⟩, hd σ H p⟩
end L2

set_option Elab.async false
set_option linter.all false
set_option maxRecDepth 100000
/-! dicts whose keys are ints: what a reading asks of them, over lists of pairs -/
namespace L2
open PySem PySem.Spec PyProof.Rows
section
variable {X : Cx}
/-- name = {..} on one line, the name a local: the dict comprehension's form of the rule for a list -/
theorem ps_setDc {i : Nat} {y : Str} {py : Pos} {kx vx tg iter : Expr} {ifs : List Expr} {scope : Scope} {own : List (Str × Nat)} {pos spos : Pos} {wi : TI} {g : TG} {tt : TT} {tk tv : TE} (hc : X.calm = true) (hN : X.N.Nodup) (hy : X.N[i]? = some y) (hyl : X.env.scope.names.lookup y = some .local)
    (hsw : swapsWith (.DictComp kx vx [⟨tg, iter, ifs, 0⟩] scope pos) (some (.Name y py)) spos.line X.env = pure true) (hi : PI X tg iter wi) (ok : BlkOk X.N X.env.scope scope own)
    (hg : ∀ (s : Shared) (H : Hp) (C : Addr) (cl : List (Str × Addr)) (fp : List Addr), PG (X.blk s H scope (compEnvC scope cl C X.env) fp) tg g) (ht : ∀ (s : Shared) (H : Hp) (C : Addr) (cl : List (Str × Addr)) (fp : List Addr), PTs (X.blk s H scope (compEnvC scope cl C X.env) fp) ifs tt)
    (hk : ∀ (s : Shared) (H : Hp) (C : Addr) (cl : List (Str × Addr)) (fp : List Addr), PE (X.blk s H scope (compEnvC scope cl C X.env) fp) kx tk)
    (he : ∀ (s : Shared) (H : Hp) (C : Addr) (cl : List (Str × Addr)) (fp : List Addr), PE (X.blk s H scope (compEnvC scope cl C X.env) fp) vx tv) (hs : ∀ x, foldedSetIterable iter X.env x = pure x := by intro _; rfl) :
    PS X (.Assign [.Name y py] (.DictComp kx vx [⟨tg, iter, ifs, 0⟩] scope pos) spos) (tAsg (tDc wi g tt tk tv (own.map (·.2))) (gName i)) := by
  refine ⟨fun pins s σ H D I h => ?_⟩
  rw [exec_Assign_Name_used _ _ _ _ hsw]
  refine wpAny_bind (wpAny_standAt (wpAny_bind ?_))
  show wpAny _ X.A (do let _ ← comprehension (.DictComp kx vx [⟨tg, iter, ifs, 0⟩] scope pos) scope X.env (firstIterPos [⟨tg, iter, ifs, 0⟩] pos) newDict false (eval iter X.env) (some (assign (.Name y py) X.env))) _ _ s
  have h : tDc wi g tt tk tv (own.map (·.2)) σ H (fun x H1 => gName i x σ H1 D.nx) := h
  refine wpAny_bind (thn (dc_core (Qf := fun _ s' => SP X pins D .next s') hc hN I hi ok hg ht hk he hs h fun L C s' m H' I' q hn f => ?_) fun _ s' hq => wpAny_pure (wpAny_pure hq))
  show wpAny _ _ (assign (.Name y py) X.env (.ref L)) _ _ _
  refine wpAny_assign_Name (store_ok2 (v := V.ref L) I' hN hy (.inl hyl) rfl (fun s2 I2 ⟨a, sb, ha⟩ => ?_) (.inr hyl))
  obtain ⟨f0, f1, f2, f3, f4, f5⟩ := f
  have haC : C ≠ a := by
    rcases ha with z | z
    · rw [z]; exact f1
    · exact fun e => f4 y a z e.symm
  refine ⟨m, hn.sameBut sb haC, fun h3 sb3 => ?_⟩
  exact ⟨_, H', I2.turned (t' := s2.toks) (fun b o hb e => (sb3.2 b hb).trans e) f0 f1 f3 f4 f5, q⟩
theorem sw_trueD {kx vx : Expr} {gs : List Comprehension} {scope : Scope} {pos py : Pos} {y : Str} {l : Nat} {env : Env} (hk : env.scope.kind = .function) (hy : env.scope.names.lookup y = some .local) (hl : (py.line == pos.line) = true)
    (ha : (scope.names.any fun (n, k) => n == y && (k == .local || k == .cell)) = false) : swapsWith (.DictComp kx vx gs scope pos) (some (.Name y py)) l env = pure true := by
  have ky : env.kindOf y = some .local := hy
  have hb : env.blockKind = .function := by unfold Env.blockKind; rw [hk]; rfl
  unfold swapsWith
  simp only [hb, ky, ha, Expr.pos, hl]
  rfl
end
end L2
namespace Rd
open PySem PySem.Spec PyProof.Rows L2
variable {K : PySem.W.Frag} {σ : L2.St} {H : Hp} {D : Ends} {Q : VK} {ta tb te tc td ty tx : TE} {x y v : V}
/-- a dict of ints to values, in order -/
abbrev DI (m : List (Int × V)) : HO := .dK (m.map fun p => (Sum.inl p.1, p.2))
def lk (m : List (Int × V)) (k : Int) : Option V := (m.find? fun p => decide (p.1 = k)).map (·.2)
def pt (m : List (Int × V)) (k : Int) (v : V) : List (Int × V) := if (m.any fun p => decide (p.1 = k)) = true then m.map (fun p => if p.1 = k then (p.1, v) else p) else m ++ [(k, v)]
theorem valV_di (m : List (Int × V)) (k : Int) : valV (m.map fun p => ((Sum.inl p.1 : Key), p.2)) (Sum.inl k) = lk m k := by
  unfold valV lk
  induction m with
  | nil => rfl
  | cons a r ih =>
    rw [List.map_cons, List.find?_cons, List.find?_cons]
    by_cases h : a.1 = k
    · have e : decide ((Sum.inl a.1 : Key) = Sum.inl k) = true := decide_eq_true (by rw [h])
      rw [e, decide_eq_true h]; rfl
    · have e : decide ((Sum.inl a.1 : Key) = Sum.inl k) = false := decide_eq_false fun z => h (Sum.inl.inj z)
      rw [e, decide_eq_false h]; exact ih
theorem putK_di (m : List (Int × V)) (k : Int) (v : V) : putK (m.map fun p => ((Sum.inl p.1 : Key), p.2)) (Sum.inl k) v = (pt m k v).map fun p => ((Sum.inl p.1 : Key), p.2) := by
  have e : ∀ p : Int × V, decide ((Sum.inl p.1 : Key) = Sum.inl k) = decide (p.1 = k) := fun p => by
    by_cases h : p.1 = k
    · rw [decide_eq_true h, decide_eq_true (by rw [h])]
    · rw [decide_eq_false h, decide_eq_false fun z => h (Sum.inl.inj z)]
  unfold putK pt
  rw [List.any_map]
  have e2 : (m.any ((fun kv : Key × V => decide (kv.1 = Sum.inl k)) ∘ fun p => ((Sum.inl p.1 : Key), p.2))) = m.any fun p => decide (p.1 = k) := by
    congr 1; funext p; exact e p
  rw [e2]
  split
  · rw [List.map_map, List.map_map]
    congr 1; funext p
    show (if (Sum.inl p.1 : Key) = Sum.inl k then ((Sum.inl p.1 : Key), v) else (Sum.inl p.1, p.2)) = _
    by_cases h : p.1 = k
    · simp [h]
    · have h2 : ¬ (Sum.inl p.1 : Key) = Sum.inl k := fun z => h (Sum.inl.inj z)
      simp [h]
  · rw [List.map_append]; rfl
theorem get_di {a : Addr} {m : List (Int × V)} {k : Int} (h : Rd H a (DI m)) : DGet H a (.int k) (lk m k) := .inl ⟨_, Sum.inl k, h, rfl, (valV_di m k).symm⟩
theorem rd_of {a : Addr} {u : HO} (h : H a = some u) : L2.Rd H a u := .inl h
theorem rd_fz {a : Addr} {u : HO} {o : Obj} (h : H a = some (.frz o u)) : L2.Rd H a u := .inr ⟨o, h⟩
theorem lk_pt (m : List (Int × V)) (k k' : Int) (v : V) : lk (pt m k v) k' = if k' = k then some v else lk m k' := by
  unfold pt
  split
  · rename_i c
    unfold lk
    induction m with
    | nil => simp at c
    | cons a r ih =>
      rw [List.map_cons, List.find?_cons, List.find?_cons]
      by_cases h : a.1 = k
      · rw [if_pos h]
        by_cases h2 : k' = k
        · rw [if_pos h2, decide_eq_true (by rw [h, h2])]; rfl
        · have e : ¬ a.1 = k' := fun z => h2 (by rw [← z, h])
          rw [if_neg h2, decide_eq_false e]
          have e2 : List.map (fun p => if p.1 = k then (p.1, v) else p) r = List.map (fun p => if p.1 = k then (p.1, v) else p) r := rfl
          have : (List.find? (fun p => decide (p.1 = k')) (List.map (fun p => if p.1 = k then (p.1, v) else p) r)).map (·.2) = (List.find? (fun p => decide (p.1 = k')) r).map (·.2) := by
            clear ih c e2
            induction r with
            | nil => rfl
            | cons b r ih =>
              rw [List.map_cons, List.find?_cons, List.find?_cons]
              by_cases h3 : b.1 = k
              · rw [if_pos h3, decide_eq_false (fun z : b.1 = k' => h2 (by rw [← z, h3]))]; exact ih
              · rw [if_neg h3]
                by_cases h4 : b.1 = k'
                · rw [decide_eq_true h4]
                · rw [decide_eq_false h4]; exact ih
          exact this
      · rw [if_neg h]
        have c2 : (r.any fun p => decide (p.1 = k)) = true := by
          rw [List.any_cons, decide_eq_false h, Bool.false_or] at c; exact c
        by_cases h4 : a.1 = k'
        · have e : ¬ k' = k := fun z => h (by rw [h4, z])
          rw [decide_eq_true h4, if_neg e]
        · rw [decide_eq_false h4]; exact ih c2
  · rename_i c
    unfold lk
    rw [List.find?_append]
    have nk : ∀ p ∈ m, ¬ p.1 = k := fun p hp z => c (List.any_eq_true.mpr ⟨p, hp, decide_eq_true z⟩)
    by_cases h2 : k' = k
    · rw [if_pos h2, h2]
      have e : List.find? (fun p => decide (p.1 = k)) m = none := List.find?_eq_none.mpr fun p hp z => nk p hp (of_decide_eq_true z)
      rw [e]; simp
    · rw [if_neg h2]
      have e : ¬ k = k' := fun z => h2 z.symm
      have e2 : List.find? (fun p : Int × V => decide (p.1 = k')) [(k, v)] = none := by simp [e]
      rw [e2, Option.or_none]
theorem pt_len {m : List (Int × V)} {k : Int} {v : V} : (pt m k v).length ≤ m.length + 1 := by
  unfold pt
  split <;> simp
/-! ### expressions -/
def NewD (Q : VK) (H : Hp) : Prop := ∀ p, H p = none → Q (.ref p) (upd H p (.dK []))
theorem dnew (h : NewD Q H) : tDNewK σ H Q := h
theorem nwD (h : ∀ p H', H p = none → Same H H' → H' p = some (DI []) → Q (.ref p) H') : NewD Q H := fun p np => h p _ np (same_new np) upd_same
def DinG (Q : VK) (x y : V) (H : Hp) : Prop := ∃ a o, x = .ref a ∧ DGet H a y o ∧ Q (.bl o.isSome) H
theorem din (h : ty σ H fun y H1 => td σ H1 fun x H2 => DinG Q x y H2) : tDIn ty td σ H Q := h
theorem dinI {a : Addr} {m : List (Int × V)} {k : Int} (h : L2.Rd H a (DI m)) (q : Q (.bl (lk m k).isSome) H) : DinG Q (.ref a) (.int k) H := ⟨a, _, rfl, get_di h, q⟩
def DnotG (Q : VK) (x y : V) (H : Hp) : Prop := ∃ a o, x = .ref a ∧ DGet H a y o ∧ Q (.bl (!o.isSome)) H
theorem dnot (h : ty σ H fun y H1 => td σ H1 fun x H2 => DnotG Q x y H2) : tDNotIn ty td σ H Q := h
theorem dnotI {a : Addr} {m : List (Int × V)} {k : Int} (h : L2.Rd H a (DI m)) (q : Q (.bl (!(lk m k).isSome)) H) : DnotG Q (.ref a) (.int k) H := ⟨a, _, rfl, get_di h, q⟩
def DgG (Q : VK) (x y : V) (H : Hp) : Prop := ∃ a v, x = .ref a ∧ DGet H a y (some v) ∧ Q v H
theorem dget (h : td σ H fun x H1 => ty σ H1 fun y H2 => DgG Q x y H2) : tDGet td ty σ H Q := h
theorem dgetI {a : Addr} {m : List (Int × V)} {k : Int} (h : L2.Rd H a (DI m)) (e : lk m k = some v) (q : Q v H) : DgG Q (.ref a) (.int k) H := ⟨a, v, rfl, e ▸ get_di h, q⟩
def Dg2G (Q : VK) (a : Addr) (y z : V) (H : Hp) : Prop := ∃ o, DGet H a y o ∧ Q (o.getD z) H
theorem dget2 (h : td σ H fun x H1 => ∃ a, x = .ref a ∧ IsD H1 a ∧ ty σ H1 fun y H2 => tx σ H2 fun z H3 => Dg2G Q a y z H3) : tDGet2 td ty tx σ H Q := h
theorem isd {a : Addr} {m : List (Int × V)} {A : Prop} (h : H a = some (DI m)) (q : A) : IsD H a ∧ A := ⟨.inl ⟨_, .inl h⟩, q⟩
theorem dget2I {a : Addr} {m : List (Int × V)} {k : Int} {z : V} (h : L2.Rd H a (DI m)) (q : Q ((lk m k).getD z) H) : Dg2G Q a (.int k) z H := ⟨_, get_di h, q⟩
def DpG (D : Ends) (σ : L2.St) (x y v : V) (H : Hp) : Prop := ∃ a H4, x = .ref a ∧ DPut H a y v H4 ∧ D.nx σ H4
theorem dput {tv : TE} (h : tv σ H fun v H1 => td σ H1 fun x H2 => ty σ H2 fun y H3 => DpG D σ x y v H3) : sDPut td ty tv D σ H := h
theorem dputI {a : Addr} {m : List (Int × V)} {k : Int} (h : H a = some (DI m)) (l : m.length < 100000) (q : D.nx σ (upd H a (DI (pt m k v)))) : DpG D σ (.ref a) (.int k) v H :=
  ⟨a, _, rfl, .inl ⟨_, Sum.inl k, h, rfl, by rw [List.length_map]; exact szl l, rfl⟩, by rw [putK_di]; exact q⟩
/-- dict(d) -/
def DictOf (Q : VK) (vs : List V) (H : Hp) : Prop := ∃ (a : Addr) (kvs : List (Key × V)), vs = [.ref a] ∧ L2.Rd H a (.dK kvs) ∧ ∀ p, H p = none → Q (.ref p) (upd H p (.dK kvs))
theorem cbDictOf {tr : TA} (h : tr σ H (DictOf Q)) : tCB (fun xs H Q => ∃ (a : Addr) (kvs : List (Key × V)), xs = [.ref a] ∧ L2.Rd H a (.dK kvs) ∧ ∀ p, H p = none → Q (.ref p) (upd H p (.dK kvs))) tr σ H Q := h
theorem dictOf {a : Addr} {m : List (Int × V)} (s : H a = some (DI m)) (h : ∀ p H', H p = none → Same H H' → H' p = some (DI m) → Q (.ref p) H') : DictOf Q [.ref a] H := ⟨a, _, rfl, .inl s, fun p np => h p _ np (same_new np) upd_same⟩
theorem isi_dd {n : Addr} {m : List (Int × V)} (h : H n = some (DI m)) (q : Q (.bl true) H) : rIsi K [.ref n, .ty "dict"] H Q := isi (.base (.dK h)) (by decide +kernel) q
/-! ### == -/
theorem neDict {a b : Addr} {m n : List (Int × V)} (ea : H a = some (DI m)) (eb : H b = some (DI n)) (l : m.length = n.length) (e : ∀ p ∈ m, lk n p.1 = some p.2 ∧ flatB p.2 = true) (q : Q (.bl false) H) : rNeDA (.ref a) (.ref b) H Q :=
  ⟨a, b, _, _, rfl, rfl, ea, eb, by rw [List.length_map, List.length_map]; exact l, fun p hp => by
    obtain ⟨x, hx, rfl⟩ := List.mem_map.mp hp
    rw [valV_di]; exact e x hx, q⟩
theorem eqDict {a b : Addr} {m n : List (Int × V)} (ea : H a = some (DI m)) (eb : H b = some (DI n)) (l : m.length = n.length) (e : ∀ p ∈ m, lk n p.1 = some p.2 ∧ flatB p.2 = true) (q : Q (.bl true) H) : rEqDA (.ref a) (.ref b) H Q :=
  ⟨a, b, _, _, rfl, rfl, ea, eb, by rw [List.length_map, List.length_map]; exact l, fun p hp => by
    obtain ⟨x, hx, rfl⟩ := List.mem_map.mp hp
    rw [valV_di]; exact e x hx, q⟩
/-! ### walks -/
variable {R : It → Hp → Prop}
theorem iitems (h : te σ H fun x H1 => ∃ d o kvs, x = .ref d ∧ H1 d = some (.frz o (.dK kvs)) ∧ R (Iti d o kvs) H1) : iItems te σ H R := h
theorem itA {d : Addr} {o : Obj} {kvs : List (Key × V)} {P : Addr → Obj → List (Key × V) → Prop} (h : H d = some (.frz o (.dK kvs))) (q : P d o kvs) : ∃ d' o' kvs', V.ref d = .ref d' ∧ H d' = some (.frz o' (.dK kvs')) ∧ P d' o' kvs' := ⟨d, o, kvs, rfl, h, q⟩
theorem ikeys (h : te σ H fun x H1 => ∃ d o, x = .ref d ∧ ((∃ kvs, H1 d = some (.frz o (.dK kvs)) ∧ R (Itk d o kvs) H1) ∨ ∃ kvs, H1 d = some (.frz o (.dT kvs)) ∧ R (Itkt d o kvs) H1)) : iKeys te σ H R := h
theorem ikA {d : Addr} {o : Obj} {kvs : List (Key × V)} {P : Addr → Obj → List (Key × V) → Prop} {B : Addr → Obj → Prop} (h : H d = some (.frz o (.dK kvs))) (q : P d o kvs) : ∃ d' o', V.ref d = .ref d' ∧ ((∃ kvs', H d' = some (.frz o' (.dK kvs')) ∧ P d' o' kvs') ∨ B d' o') := ⟨d, o, rfl, .inl ⟨kvs, h, q⟩⟩
theorem lockS {t : TS} {d : Addr} {m : List (Int × V)} (h : H d = some (DI m)) (q : ∀ od, t ⟨fun σ' H' => H' d = some (.frz od (DI m)) ∧ D.nx σ' (upd H' d (DI m)), fun v H' => H' d = some (.frz od (DI m)) ∧ D.rt v (upd H' d (DI m)), fun σ' H' => H' d = some (.frz od (DI m)) ∧ D.bk σ' (upd H' d (DI m)), fun σ' H' => H' d = some (.frz od (DI m)) ∧ D.ct σ' (upd H' d (DI m))⟩ σ (upd H d (.frz od (DI m)))) : tLock t D σ H :=
  ⟨d, _, h, trivial, q⟩
theorem lockE {t : TE} {d : Addr} {m : List (Int × V)} (h : H d = some (DI m)) (q : ∀ od, t σ (upd H d (.frz od (DI m))) fun v H' => H' d = some (.frz od (DI m)) ∧ Q v (upd H' d (DI m))) : tLockE t σ H Q := ⟨d, _, h, trivial, q⟩
/-- the dict given back: all is kept -/
theorem unlock {H' : Hp} {d : Addr} {u : HO} (h : H d = some u) (b : But d H H') : Same H (upd H' d u) := fun c o e => by
  by_cases z : c = d
  · subst z; rw [upd_same]; exact h.symm.trans e
  · rw [upd_ne z]; exact b c o z e
theorem lock {d : Addr} {u : HO} : But d H (upd H d u) := But.at_
/-- the i-th pair of a walk over items: a new tuple -/
theorem items_at {m : List (Int × V)} {i : Nat} {x : V} {H H' : Hp} (y : YPair (fun i => ((m.map fun p => ((Sum.inl p.1 : Key), p.2))[i]?).map fun kv => kV kv.1) (fun i => ((m.map fun p => ((Sum.inl p.1 : Key), p.2))[i]?).map Prod.snd) i H x H') :
    ∃ (T : Addr) (p : Int × V), m[i]? = some p ∧ x = .ref T ∧ H T = none ∧ H' = upd H T (.tup [.int p.1, p.2]) := by
  obtain ⟨T, a, b, e1, e2, e3, e4, e5⟩ := y
  dsimp only at e4 e5
  rw [List.getElem?_map] at e4 e5
  cases e : m[i]? with
  | none => rw [e] at e4; cases e4
  | some p =>
    rw [e] at e4 e5
    cases e4; cases e5
    exact ⟨T, p, rfl, e1, e2, e3⟩
theorem keys_at {m : List (Int × V)} {i : Nat} {x : V} {H H' : Hp} (y : H' = H ∧ ∃ k v, (m.map fun p => ((Sum.inl p.1 : Key), p.2))[i]? = some (k, v) ∧ x = kV k) : H' = H ∧ ∃ p : Int × V, m[i]? = some p ∧ x = .int p.1 := by
  obtain ⟨e, k, v, h, rfl⟩ := y
  rw [List.getElem?_map] at h
  cases e2 : m[i]? with
  | none => rw [e2] at h; cases h
  | some p => rw [e2] at h; cases h; exact ⟨e, p, rfl, rfl⟩
/-! ### comprehensions -/
theorem dc {wi : TI} {g : TG} {tt : TT} {tk tv : TE} {ws : List Nat} (h : wi σ H fun J H1 => ∀ D, H1 D = none → ∃ W : Nat → Nat → Hp → Prop, (∃ m, W 0 m (upd H1 D (.dK []))) ∧ ∀ i m H, W i m H →
  (J.stop i H ∧ Q (.ref D) H) ∨ (J.go i H ∧ ∃ Nx : Hp → Prop, (∀ H', Nx H' → ∃ m', m' < m ∧ W (i + 1) m' H') ∧ ∀ x H', J.yld i H x H' → g x (wipe σ ws) H' fun σ2 H2 => wipe σ2 ws = wipe σ ws ∧ tt σ2 H2 fun b H3 =>
    if b = true then tk σ2 H3 fun y H4 => tv σ2 H4 fun z H5 => ∃ kvs k, y = kV k ∧ H5 D = some (.dK kvs) ∧ kvs.length < sizeLine ∧ Nx (upd H5 D (.dK (putK kvs k z))) else Nx H3)) : tDc wi g tt tk tv ws σ H Q := h
theorem dc_it {J : It} {n : Nat} {G : Hp → Prop} {Y : Nat → Hp → V → Hp → Prop} (w : Walk J n G Y) {g : TG} {tt : TT} {tk tv : TE} {vs : List Nat} {H1 : Hp} {d : Addr} {Qd : Hp → Prop} (Pv : Nat → Hp → Prop) (h0 : Pv 0 (upd H1 d (DI []))) (hG : ∀ i H, i ≤ n → Pv i H → G H)
    (hs : ∀ i x H H' (Kt : V → V → Hp → Prop) (Kn : Hp → Prop), i < n → Pv i H → Y i H x H' → (∀ m k z H5, H5 d = some (DI m) → m.length < 100000 → Pv (i + 1) (upd H5 d (DI (pt m k z))) → Kt (.int k) z H5) → (∀ H3, Pv (i + 1) H3 → Kn H3) →
      g x (wipe σ vs) H' fun σ2 H2 => wipe σ2 vs = wipe σ vs ∧ tt σ2 H2 fun b H3 => if b = true then tk σ2 H3 fun y H4 => tv σ2 H4 fun z H5 => Kt y z H5 else Kn H3)
    (hd : ∀ H, Pv n H → Qd H) :
    ∃ W : Nat → Nat → Hp → Prop, (∃ m, W 0 m (upd H1 d (.dK []))) ∧ ∀ i m H, W i m H →
      (J.stop i H ∧ Qd H) ∨ (J.go i H ∧ ∃ Nx : Hp → Prop, (∀ H', Nx H' → ∃ m', m' < m ∧ W (i + 1) m' H') ∧ ∀ x H', J.yld i H x H' → g x (wipe σ vs) H' fun σ2 H2 => wipe σ2 vs = wipe σ vs ∧ tt σ2 H2 fun b H3 =>
        if b = true then tk σ2 H3 fun y H4 => tv σ2 H4 fun z H5 => ∃ kvs k, y = kV k ∧ H5 d = some (.dK kvs) ∧ kvs.length < sizeLine ∧ Nx (upd H5 d (.dK (putK kvs k z))) else Nx H3) := by
  refine ⟨fun i m H => m = n - i ∧ i ≤ n ∧ Pv i H, ⟨n, by simp, Nat.zero_le _, h0⟩, ?_⟩
  rintro i m H ⟨rfl, hi, p⟩
  have q := hG i H hi p
  by_cases hlt : i < n
  · refine .inr ⟨w.goes i H hlt q, Pv (i + 1), fun H' p' => ⟨n - (i + 1), by omega, rfl, hlt, p'⟩, fun x H' y => ?_⟩
    exact hs i x H H' (fun y z H5 => ∃ kvs k, y = kV k ∧ H5 d = some (.dK kvs) ∧ kvs.length < sizeLine ∧ Pv (i + 1) (upd H5 d (.dK (putK kvs k z)))) _ hlt p (w.yields i H x H' hlt q y)
      (fun m k z H5 h5 hl r => ⟨_, Sum.inl k, rfl, h5, by rw [List.length_map]; exact szl hl, by rw [putK_di]; exact r⟩) fun _ h => h
  · have e : i = n := by omega
    subst e
    exact .inl ⟨w.stops H q, hd H p⟩
end Rd

set_option Elab.async false
set_option linter.all false
set_option maxRecDepth 100000
namespace L2
open PySem PySem.Spec PyProof.Rows
/-- max(xs, default=d) of a list of ints -/
def rMaxDf (K : PySem.W.Frag) : List V → List V → Hp → VK → Prop := fun vs zs H Q => ∃ (a : Addr) (ns : List Int) (d : V), vs = [V.ref a] ∧ zs = [d] ∧ SqL K H a (ns.map V.int) ∧ (ns = [] → Q d H) ∧ ∀ m, m ∈ ns → (∀ y ∈ ns, y ≤ m) → Q (.int m) H
theorem maxOf_spec (y : Int) (ys : List Int) : PySem.W.maxOf y ys ∈ y :: ys ∧ ∀ z ∈ y :: ys, z ≤ PySem.W.maxOf y ys := by
  unfold PySem.W.maxOf
  induction ys generalizing y with
  | nil => simp
  | cons b r ih =>
    obtain ⟨h1, h2⟩ := ih (if PySem.W.DatumOrd.lt y b = true then b else y)
    have e : (PySem.W.DatumOrd.lt y b = true) = (y < b) := by
      show (decide (y < b) = true) = (y < b)
      simp
    rw [List.foldl_cons]
    refine ⟨?_, fun z m => ?_⟩
    · rcases List.mem_cons.mp h1 with h | h
      · rw [h]
        split
        · exact List.mem_cons_of_mem _ List.mem_cons_self
        · exact List.mem_cons_self
      · exact List.mem_cons_of_mem _ (List.mem_cons_of_mem _ h)
    · have h0 := h2 _ List.mem_cons_self
      by_cases c : y < b
      · rw [if_pos (by rw [e]; exact c)] at h0 h2 ⊢
        rcases List.mem_cons.mp m with rfl | m
        · omega
        rcases List.mem_cons.mp m with rfl | m
        · exact h0
        · exact h2 z (List.mem_cons_of_mem _ m)
      · rw [if_neg (by rw [e]; exact c)] at h0 h2 ⊢
        rcases List.mem_cons.mp m with rfl | m
        · exact h0
        rcases List.mem_cons.mp m with rfl | m
        · omega
        · exact h2 z (List.mem_cons_of_mem _ m)
theorem cr_maxDf {X : Cx} (hc : X.calm = true) (hu : X.A.units + 65 < cLine) : CallRK X (.builtin "max") [Str.ofString "default"] (rMaxDf X.K) := by
  intro pins s σ H vs zs us ws Q I r rz h
  obtain ⟨a, ns, d, rfl, rfl, hs, h0, h1⟩ := h
  obtain ⟨its, rv, hl, _⟩ := I.list hs
  rw [Vals.ref1 r]
  cases rz with
  | cons rd rt =>
    rename_i ud ut
    cases rt
    show wpAny _ _ (call (.builtin "max") [.ref a] [(Str.ofString "default", ud)]) _ _ s
    refine PySem.W.max_list_datum_default (α := Int) (xs := ns) (I.ok.hd hc) hl.isList (PySem.W.HoldAll.of_ints rv.ints) (by show X.A.units + 1 + 0 < cLine; omega) (fun e h' tk hk => ⟨d, H, I.kept hk, rd, h0 e⟩) fun y ys i v h' tk e hi hv hk => ?_
    obtain ⟨as, rd2⟩ := hv
    subst e
    obtain ⟨m1, m2⟩ := maxOf_spec y ys
    generalize hm : PySem.W.maxOf y ys = m at *
    have rd3 : Reads h' v (.int m) as := rd2
    cases rd3
    exact ⟨.int m, H, I.kept hk, ⟨_, rfl⟩, h1 m m1 m2⟩
end L2
namespace Rd
open PySem PySem.Spec PyProof.Rows L2
variable {K : PySem.W.Frag} {σ : L2.St} {H : Hp} {D : Ends} {Q : VK} {td ty tx : TE} {x y v : V} {tr tk : TA}
def MxG (K : PySem.W.Frag) (Q : VK) (vs zs : List V) (H : Hp) : Prop := rMaxDf K vs zs H Q
theorem ckw {r : List V → List V → Hp → VK → Prop} (h : tr σ H fun vs H1 => tk σ H1 fun zs H2 => r vs zs H2 Q) : tCKw r tr tk σ H Q := h
theorem maxDf {a : Addr} {ns : List Int} {d : V} (h : H a = some (.lst (ns.map V.int))) (h0 : ns = [] → Q d H) (h1 : ∀ m, m ∈ ns → (∀ y ∈ ns, y ≤ m) → Q (.int m) H) : rMaxDf K [.ref a] [d] H Q := ⟨a, ns, d, rfl, rfl, SqL.of h, h0, h1⟩
def StG (a : Addr) (y z : V) (Q : VK) (H3 : Hp) : Prop := ∃ (kvs : List (Key × V)) (k : Key), H3 a = some (.dK kvs) ∧ y = kV k ∧ kvs.length < sizeLine ∧ (∀ v, valV kvs k = some v → Q v H3) ∧ (valV kvs k = none → Q z (upd H3 a (.dK (putK kvs k z))))
theorem dsetd (h : td σ H fun x H1 => ∃ a, x = .ref a ∧ IsD H1 a ∧ ty σ H1 fun y H2 => tx σ H2 fun z H3 => StG a y z Q H3) : tDSetd td ty tx σ H Q := h
theorem dsetdI {a : Addr} {m : List (Int × V)} {k : Int} {z : V} (h : H a = some (DI m)) (l : m.length < 100000) (h1 : ∀ v, lk m k = some v → Q v H) (h2 : lk m k = none → Q z (upd H a (DI (pt m k z)))) : StG a (.int k) z Q H :=
  ⟨_, Sum.inl k, h, rfl, by rw [List.length_map]; exact szl l, fun v e => h1 v (by rw [← valV_di]; exact e), fun e => by rw [putK_di]; exact h2 (by rw [← valV_di]; exact e)⟩
def DlG (D : Ends) (σ : L2.St) (x y : V) (H2 : Hp) : Prop := ∃ a kvs k, x = .ref a ∧ H2 a = some (.dK kvs) ∧ y = kV k ∧ (valV kvs k).isSome = true ∧ D.nx σ (upd H2 a (.dK (dropK kvs k)))
theorem ddel (h : td σ H fun x H1 => ty σ H1 fun y H2 => DlG D σ x y H2) : sDDel td ty D σ H := h
def dr (m : List (Int × V)) (k : Int) : List (Int × V) := m.filter fun p => !decide (p.1 = k)
theorem dropK_di (m : List (Int × V)) (k : Int) : dropK (m.map fun p => ((Sum.inl p.1 : Key), p.2)) (Sum.inl k) = (dr m k).map fun p => ((Sum.inl p.1 : Key), p.2) := by
  unfold dropK dr
  induction m with
  | nil => rfl
  | cons a r ih =>
    rw [List.map_cons, List.filter_cons, List.filter_cons, ih]
    by_cases h : a.1 = k <;> simp [h]
theorem lk_dr (m : List (Int × V)) (k k' : Int) : lk (dr m k) k' = if k' = k then none else lk m k' := by
  unfold lk dr
  induction m with
  | nil => simp
  | cons a r ih =>
    rw [List.filter_cons]
    by_cases h : a.1 = k
    · rw [if_neg (by simp [h]), ih]
      by_cases h2 : k' = k
      · rw [if_pos h2, if_pos h2]
      · rw [if_neg h2, if_neg h2, List.find?_cons, decide_eq_false (by rw [h]; exact fun z => h2 z.symm)]
    · rw [if_pos (by simp [h]), List.find?_cons]
      by_cases h3 : a.1 = k'
      · rw [decide_eq_true h3, if_neg (by rw [← h3]; exact h), List.find?_cons, decide_eq_true h3]
      · rw [decide_eq_false h3]
        rw [ih, List.find?_cons, decide_eq_false h3]
theorem ddelI {a : Addr} {m : List (Int × V)} {k : Int} (h : H a = some (DI m)) (e : (lk m k).isSome = true) (q : D.nx σ (upd H a (DI (dr m k)))) : DlG D σ (.ref a) (.int k) H :=
  ⟨a, _, Sum.inl k, rfl, h, rfl, by rw [valV_di]; exact e, by rw [dropK_di]; exact q⟩
end Rd

set_option Elab.async false
set_option linter.all false
set_option maxRecDepth 100000
namespace L2
open PySem PySem.Spec PyProof.Rows
/-! set(xs) of a list of ints -/
/-- the set just made -/
abbrev eSet (w : World) : Obj := { cls := .type "set", dict := none, data := .set #[] 0 (.fresh 0 0 (!w.params.followText "set-order")) }
section
variable {P : Program} {w : World} {A : Around} {E : Value → Shared → Prop} {s : Shared}
/-- what the filling says of the heap behind it -/
def Filled (w : World) (s : Shared) (ns : List Int) (h' : Heap) (c : Nat) : Prop :=
  SetR w h' s.heap.objs.size (fun j => decide (j ∈ ns)) c ∧ c ≤ ns.length ∧ ∀ b o, s.heap.get? b = some o → h'.get? b = some o
set_option maxHeartbeats 3200000 in
theorem set_listI {l : Addr} {items : Array Value} (ns : List Int) {Q : Value → Shared → Prop} (hh : A.handled = none) (hl : s.heap.IsList l items) (hit : IntsAre items.toList ns) (hb : ns.length + 1 < scanBound)
    (h : ∀ (h' : Heap) (tk c : Nat), Filled w s ns h' c → Q (.ref s.heap.objs.size) { s with heap := h', toks := tk }) :
    wpAny (model P w) A (call (.type "set") [.ref l]) Q E s := by
  have hlS : l < s.heap.objs.size := by
    obtain ⟨ol, hol, _⟩ := hl
    exact Heap.lt_size hol
  have hisz : items.size = ns.length := by
    have q := IntsAre.length hit
    rwa [Array.length_toList] at q
  obtain ⟨c, tl, hmro⟩ := F.called_set.mro
  have hmade := F.called_set.made
  have hsub := F.called_set.sub
  have h1 := F.called_set.notType
  have h2 := F.called_set.canCreate
  have hct := F.typeCall_set_1 (.ref l)
  refine wpAny_call (codeAny_of_tree ?_)
  show wpAny _ _ (callAny (.type "set") _) _ _ _
  refine wpAny_pure ⟨Code.quiet_builtin _ (by decide +kernel), codeAny_builtin F.entry_type_call ?_⟩
  rw [Around.under_plain (weight_type_call_type "set" [.ref l] []) rfl]
  repeat (any_goals (first | assumption | wp_step))
  refine codeAny_mono (code_set_led1 (.ref l) (E := E) (Q₁ := fun obj s₁ => obj = .ref s.heap.objs.size ∧ s₁ = { s with heap := s.heap.push (eSet w) }) ⟨rfl, rfl⟩) fun r s₁ hr => ?_
  cases r with
  | error e => exact hr
  | ok fl =>
    cases fl with
    | ret obj =>
      obtain ⟨rfl, rfl⟩ := hr
      have hS : (s.heap.push (eSet w)).get? s.heap.objs.size = some (eSet w) := Heap.get?_push_size _ rfl
      have hT : Shared.TypeIs { s with heap := s.heap.push (eSet w) } (.ref s.heap.objs.size) "set" := ⟨_, hS, rfl⟩
      have hli := F.called_set.init.lookup
      have hbi := F.called_set.init.bind (.ref s.heap.objs.size)
      repeat (any_goals (first | assumption | wp_step))
      refine codeAny_mono (codeAny_call_builtin (R := wants (fun r s₂ => r = .none ∧ ∃ h' tk c, s₂ = { s with heap := h', toks := tk } ∧ Filled w s ns h' c) E) F.called_set.init.plain F.entry_set_init (check_set_init_1 hT ?_)) fun r₂ s₂ hr₂ => ?_
      · have hl1 : (s.heap.push (eSet w)).IsList l items := hl.push _
        obtain ⟨⟨ocls, odict, odata, oslots⟩, hol, hcl, nl, hdl⟩ := hl1
        simp only at hcl hdl
        subst hcl; subst hdl
        have hl1 : (s.heap.push (eSet w)).IsList l items := ⟨_, hol, rfl, nl, rfl⟩
        have hsls := F.sub_list_set
        have hslf := F.sub_list_frozenset
        have hne : (Value.type "list" == Value.type "dict") = false := by decide
        unfold Builtin.«set.__init__» noKeywords Builtin.Frozenset.updateFrom
        generalize hPI : pyIter = PI
        wp_walk
        subst hPI
        refine wpAny_pyIter_list hl1 ?_
        refine wpAny_bind (wpAny_runValue ?_)
        have hh3 : A.in1.in1.in1.handled = none := by simp [hh]
        have hneI : l ≠ (s.heap.push (eSet w)).objs.size := by
          rw [Heap.size_push]; exact Nat.ne_of_lt (Nat.lt_succ_of_lt hlS)
        have hSf : s.heap.objs.size ∉ [(s.heap.push (eSet w)).objs.size, l] := by
          rw [Heap.size_push]
          simp only [List.mem_cons, List.not_mem_nil, or_false, not_or]
          exact ⟨Nat.ne_of_lt (Nat.lt_succ_self _), Nat.ne_of_gt hlS⟩
        have hval : ∀ (i : Nat) (v : Value), items[i]? = some v → ∃ k t, ns[i]? = some k ∧ v = .int k t := fun i v hv => by
          have hi : i < ns.length := by rw [← hisz]; exact (Array.getElem?_eq_some_iff.mp hv).1
          obtain ⟨t, e⟩ := PyProof.Rows.IntsAre.int_at hit i v (by rw [Array.getElem?_toList]; exact hv)
          refine ⟨ns[i], t, List.getElem?_eq_getElem hi, ?_⟩
          rw [e, List.getD_eq_getElem?_getD, List.getElem?_eq_getElem hi] <;> rfl
        refine set_update_ints ((Walks.list hh3 _ l hneI items).toS) s.heap.objs.size hSf ns hisz hb hval (items.size - 0) 0 _ (by omega) (Nat.zero_le _)
          ⟨⟨_, Heap.get?_push_size _ rfl, rfl, rfl⟩, (hl1.push _)⟩ ⟨0, Nat.le_refl 0, setR_new_at (Heap.get?_push_of_some _ hS)⟩ ?_
        rintro ⟨h', g2, d', tk', os'⟩ c' hm hc' hS'
        have eg : g2 = s.gens := hm.gens
        have ed : d' = s.drawn := hm.drawn
        have eo : os' = s.os := hm.os
        subst eg; subst ed; subst eo
        show wpAny _ _ _ _ _ _
        refine wpAny_pure ?_
        show wpAny _ _ (ret Value.none) _ _ _
        refine wpAny_pure ⟨rfl, h', tk', c', rfl, hS', by omega, fun b o e => ?_⟩
        have hb0 : b < s.heap.objs.size := Heap.lt_size e
        refine hm.heap b o ?_ (Heap.get?_push_of_some _ (Heap.get?_push_of_some _ e))
        rw [Heap.size_push]
        simp only [List.mem_cons, List.not_mem_nil, or_false, not_or]
        exact ⟨Nat.ne_of_lt hb0, Nat.ne_of_lt (Nat.lt_succ_of_lt hb0)⟩
      · cases r₂ with
        | error e => exact hr₂
        | ok fl₂ =>
          cases fl₂ with
          | ret r =>
            obtain ⟨rfl, h', tk, c', rfl, hf⟩ := hr₂
            repeat (any_goals (first | assumption | wp_step))
            exact h _ _ _ hf
          | _ => exact hr₂.elim
    | _ => exact hr.elim
end
section
variable {X : Cx}
/-- set(xs) of a list of ints: its members, and at most as many as there are rows -/
def rSetI (K : PySem.W.Frag) (w : World) : List V → Hp → VK → Prop := fun xs H Q => ∃ (l : Addr) (ns : List Int), xs = [V.ref l] ∧ SqL K H l (ns.map V.int) ∧ ns.length + 1 < scanBound ∧
  ∀ (p : Addr) (c : Nat), c ≤ ns.length → (∃ ks : List Int, ks.Nodup ∧ (∀ k ∈ ks, k ∈ ns) ∧ ks.length = c) → H p = none → Q (.ref p) (upd H p (SetO w p (fun j => decide (j ∈ ns)) c))
theorem cr_setI (hc : X.calm = true) : CallR X (.type "set") (rSetI X.K X.w) := by
  intro pins s σ H xs us Q I r h
  obtain ⟨l, ns, rfl, hl, hb, q⟩ := h
  rw [Vals.ref1 r]
  obtain ⟨its, rv, pl, hz⟩ := I.list hl
  have hn : H s.heap.objs.size = none := I.hok.fresh (Nat.le_refl _)
  refine set_listI ns (I.ok.hd hc) pl.isList (by simpa using ints_of_vals rv) hb fun h' tk c hf => ?_
  exact ⟨.ref s.heap.objs.size, upd H s.heap.objs.size (SetO X.w s.heap.objs.size (fun j => decide (j ∈ ns)) c), I.laid (t' := tk) hf.2.2 (Nat.le_refl _) (setO_new hf.1), rfl, q _ c hf.2.1 (by
    obtain ⟨o, es, ep, t, ho, he, hd, hg, nd, mem, hs, hft, hn, _⟩ := hf.1
    exact ⟨_, nd, fun k m => of_decide_eq_true ((mem k).mpr m), by rw [List.length_map, Array.length_toList]; exact hn⟩) hn⟩
end
end L2

set_option Elab.async false
set_option linter.all false
set_option maxRecDepth 100000
set_option maxHeartbeats 2000000
/-! list(zip(xs, ys)) of two lists -/
namespace Zl
open PySem PySem.Calls PyProof.Rows PyProof.V PySem.Spec PySem.W
/-- the addresses as hold the pairs so far -/
structure PairsG (xs ys : Array Value) (lo : Addr) (h : Heap) (as : List Addr) : Prop where
  rise : as.Pairwise (· < ·)
  above : ∀ a ∈ as, lo < a
  pairs : ∀ (j : Nat) (a : Addr), as[j]? = some a → ∃ x y, xs[j]? = some x ∧ ys[j]? = some y ∧ IsPair h a x y
theorem PairsG.there {xs ys : Array Value} {lo : Addr} {h : Heap} {as : List Addr} (g : PairsG xs ys lo h as) {a : Addr} (ha : a ∈ as) : a < h.objs.size := by
  obtain ⟨j, hj⟩ := List.mem_iff_getElem?.mp ha
  obtain ⟨_, _, _, _, e⟩ := g.pairs j a hj
  exact Heap.lt_size e
/-- the zip under way, its list at S -/
def ZSt (z TI TO i1 i2 l1 l2 S : Addr) (xs ys : Array Value) (i : Nat) (h : Heap) : Prop :=
  IsPair h TI (.ref i1) (.ref i2) ∧ h.IsListIter i1 l1 i ∧ h.IsListIter i2 l2 i ∧ h.IsList l1 xs ∧ h.IsList l2 ys ∧
    ((IsZip h z TI TO .none ∧ ∃ a b, IsPair h TO a b) ∨ ∃ T f oT, IsZipHeld h z TI TO T f ∧ h.get? T = some oT ∧ T ≠ z ∧ T ≠ i1 ∧ T ≠ i2 ∧ T ≠ S)
structure Off (z TI TO i1 i2 l1 l2 S : Addr) : Prop where
  z : z < S
  TI : TI < S
  TO : TO < S
  i1 : i1 < S
  i2 : i2 < S
  l1 : l1 < S
  l2 : l2 < S
section
variable {prog : Program} {w : World} {A : Around} {E : Value → Shared → Prop} {s : Shared} {z TI TO i1 i2 l1 l2 S : Addr} {xs ys : Array Value}
theorem ZSt.push {h h' : Heap} {i : Nat} (O : Off z TI TO i1 i2 l1 l2 S) (st : ZSt z TI TO i1 i2 l1 l2 S xs ys i h) (hk : ∀ b o, b ≠ S → h.get? b = some o → h'.get? b = some o) : ZSt z TI TO i1 i2 l1 l2 S xs ys i h' := by
  obtain ⟨hTI, h1, h2, hl1, hl2, hz⟩ := st
  refine ⟨hk _ _ (Nat.ne_of_lt O.TI) hTI, h1.at fun o e => hk _ o (Nat.ne_of_lt O.i1) e, h2.at fun o e => hk _ o (Nat.ne_of_lt O.i2) e, hl1.at fun o e => hk _ o (Nat.ne_of_lt O.l1) e, hl2.at fun o e => hk _ o (Nat.ne_of_lt O.l2) e, ?_⟩
  rcases hz with ⟨hz, a, b, hTO⟩ | ⟨T, f, oT, hz, hT, r1, r2, r3, r4⟩
  · exact .inl ⟨hk _ _ (Nat.ne_of_lt O.z) hz, a, b, hk _ _ (Nat.ne_of_lt O.TO) hTO⟩
  · exact .inr ⟨T, f, oT, hk _ _ (Nat.ne_of_lt O.z) hz, hk _ _ r4 hT, r1, r2, r3, r4⟩
theorem zl_item {i : Nat} {x y : Value} {Q : Option Value → Shared → Prop} (D : ZipApart z TI TO i1 i2 l1 l2) (st : ZSt z TI TO i1 i2 l1 l2 S xs ys i s.heap) (hS : S < s.heap.objs.size) (hx : xs[i]? = some x) (hy : ys[i]? = some y)
    (hQ : ∀ h', ZSt z TI TO i1 i2 l1 l2 S xs ys (i + 1) h' → IsPair h' s.heap.objs.size x y → h'.objs.size = s.heap.objs.size + 1 → (∀ b o, b ≠ z → b ≠ TO → b ≠ i1 → b ≠ i2 → s.heap.get? b = some o → h'.get? b = some o) → Q (some (.ref s.heap.objs.size)) { s with heap := h' }) :
    wpAny (model prog w) A (pyNext (.ref z)) Q E s := by
  obtain ⟨hTI, h1, h2, hl1, hl2, hz⟩ := st
  have lt : ∀ {c o}, s.heap.get? c = some o → s.heap.objs.size ≠ c := fun e => Nat.ne_of_gt (Heap.lt_size e)
  have n1 : s.heap.objs.size ≠ i1 := let ⟨_, e, _⟩ := h1; lt e
  have n2 : s.heap.objs.size ≠ i2 := let ⟨_, e, _⟩ := h2; lt e
  rcases hz with ⟨hz, a, b, hTO⟩ | ⟨T, f, oT, hz, hT, r1, r2, r3, r4⟩
  · refine wpAny_pyNext_zip_item D hz hTI hTO h1 h2 hl1 hl2 hx hy fun h' a1 a2 a3 a4 a5 a6 hk => ?_
    exact hQ h' ⟨hk _ _ D.TIz D.TITO D.TIi1 D.TIi2 hTI, a3, a4, hl1.at fun o e => hk _ o D.l1z D.l1TO D.l1i1 D.l1i2 e, hl2.at fun o e => hk _ o D.l2z D.l2TO D.l2i1 D.l2i2 e,
      .inr ⟨s.heap.objs.size, false, _, a1, a5, lt hz, n1, n2, Nat.ne_of_gt hS⟩⟩ a5 a6 hk
  · refine wpAny_pyNext_zip_item_held D hz hT hTI h1 h2 hl1 hl2 hx hy fun h' a1 a3 a4 a5 a6 hk => ?_
    exact hQ h' ⟨hk _ _ D.TIz D.TIi1 D.TIi2 hTI, a3, a4, hl1.at fun o e => hk _ o D.l1z D.l1i1 D.l1i2 e, hl2.at fun o e => hk _ o D.l2z D.l2i1 D.l2i2 e,
      .inr ⟨T, true, oT, a1, hk _ _ r1 r2 r3 hT, r1, r2, r3, r4⟩⟩ a5 a6 fun b o c1 _ c3 c4 e => hk b o c1 c3 c4 e
theorem zl_done {i : Nat} {Q : Option Value → Shared → Prop} (hh : A.handled = none) (D : ZipApart z TI TO i1 i2 l1 l2) (st : ZSt z TI TO i1 i2 l1 l2 S xs ys i s.heap) (hend : xs[i]? = none ∨ ys[i]? = none)
    (hQ : ∀ h', (∀ b o, b ≠ z → b ≠ TO → b ≠ i1 → b ≠ i2 → s.heap.get? b = some o → h'.get? b = some o) → Q none { s with heap := h' }) :
    wpAny (model prog w) A (pyNext (.ref z)) Q E s := by
  obtain ⟨hTI, h1, h2, hl1, hl2, hz⟩ := st
  rcases hz with ⟨hz, a, b, hTO⟩ | ⟨T, f, oT, hz, hT, r1, r2, r3, r4⟩
  · exact wpAny_pyNext_zip_end hh D hz hTI hTO h1 h2 hl1 hl2 hend fun h' hk => hQ h' hk
  · exact wpAny_pyNext_zip_end_held hh D hz hT hTI h1 h2 hl1 hl2 hend fun h' hk => hQ h' fun b o c1 _ c3 c4 e => hk b o c1 c3 c4 e
end
section
variable {prog : Program} {w : World} {A : Around} {s : Shared} {R : Result → Shared → Prop} {z TI TO i1 i2 l1 l2 S : Addr} {xs ys : Array Value}
theorem zl_loop (hh : A.handled = none) (D : ZipApart z TI TO i1 i2 l1 l2) (O : Off z TI TO i1 i2 l1 l2 S) (hxy : xs.size = ys.size) (hn : xs.size ≤ sizeLine) (res : Value) {h₁ : Heap}
    (hR : ∀ h' tk acc c as, (∀ b o, b ≠ S → b ≠ z → b ≠ TO → b ≠ i1 → b ≠ i2 → h₁.get? b = some o → h'.get? b = some o) → h'.get? S = some { cls := .type "list", dict := none, data := .seq acc c, slots := #[] } → as.length = xs.size → PairsG xs ys S h' as →
      acc.toList = as.map Value.ref → R (.ok (.ret res)) { s with heap := h', toks := tk }) :
    ∀ (k i : Nat) (h : Heap) (tk c : Nat) (acc : Array Value) (as : List Addr), xs.size - i = k → i ≤ xs.size → ZSt z TI TO i1 i2 l1 l2 S xs ys i h → (∀ b o, b ≠ S → b ≠ z → b ≠ TO → b ≠ i1 → b ≠ i2 → h₁.get? b = some o → h.get? b = some o) →
      h.get? S = some { cls := .type "list", dict := none, data := .seq acc c, slots := #[] } → acc.toList = as.map Value.ref → as.length = i → PairsG xs ys S h as →
      codeAny (model prog w) A (.builtin "list.extend.loop" ⟨[.ref S, .ref z, res], []⟩) R { s with heap := h, toks := tk } := by
  intro k
  induction k with
  | zero =>
    intro i h tk c acc as hk hi hst hkeep hS hacc hal hG
    have hin : i = xs.size := by omega
    refine codeAny_builtin PySem.F.entry_extend_loop ?_
    rw [Around.under_plainId PySem.F.plain_extend_loop _]
    show wpAny _ A.in1 (pyNext (.ref z) >>= _) _ _ _
    refine wpAny_bind (zl_done (s := { s with heap := h, toks := tk }) (A := A.in1) hh D hst (.inl (Array.getElem?_eq_none (by omega))) fun h' he => ?_)
    refine wpAny_pure (hR h' tk acc c as (fun b o h0 h1 h2 h3 h4 e => he b o h1 h2 h3 h4 (hkeep b o h0 h1 h2 h3 h4 e)) (he S _ (Nat.ne_of_gt O.z) (Nat.ne_of_gt O.TO) (Nat.ne_of_gt O.i1) (Nat.ne_of_gt O.i2) hS) (by omega) ⟨hG.rise, hG.above, fun j a hj => ?_⟩ hacc)
    obtain ⟨x, y, e1, e2, e3⟩ := hG.pairs j a hj
    have ab := hG.above a (List.mem_of_getElem? hj)
    exact ⟨x, y, e1, e2, he a _ (Nat.ne_of_gt (Nat.lt_trans O.z ab)) (Nat.ne_of_gt (Nat.lt_trans O.TO ab)) (Nat.ne_of_gt (Nat.lt_trans O.i1 ab)) (Nat.ne_of_gt (Nat.lt_trans O.i2 ab)) e3⟩
  | succ k ih =>
    intro i h tk c acc as hk hi hst hkeep hS hacc hal hG
    have hlt : i < xs.size := by omega
    have hlt2 : i < ys.size := by omega
    have hsz : acc.size = i := by rw [← Array.length_toList, hacc, List.length_map, hal]
    refine codeAny_builtin PySem.F.entry_extend_loop ?_
    rw [Around.under_plainId PySem.F.plain_extend_loop _]
    show wpAny _ A.in1 (pyNext (.ref z) >>= _) _ _ _
    have hSl : S < h.objs.size := Heap.lt_size hS
    refine wpAny_bind (zl_item (s := { s with heap := h, toks := tk }) D hst hSl (Array.getElem?_eq_getElem hlt) (Array.getElem?_eq_getElem hlt2) fun h' hst' ht hz hkp => ?_)
    dsimp only at ht hz hkp ⊢
    have hS' := hkp S _ (Nat.ne_of_gt O.z) (Nat.ne_of_gt O.TO) (Nat.ne_of_gt O.i1) (Nat.ne_of_gt O.i2) hS
    have up : ∀ b o, b ≠ S → h'.get? b = some o → (h'.update S (Obj.mapSeq (·.push (Value.ref h.objs.size)))).get? b = some o := fun b o hb e => (Heap.get?_update_other _ _ (Ne.symm hb)).trans e
    show wpAny _ A.in1 (updateSeq S (·.push (Value.ref h.objs.size)) >>= _) _ _ _
    refine wpAny_bind ?_
    refine wpAny_updateSeq hS' rfl (wpAny_pure ⟨plainId_quiet PySem.F.plain_extend_loop _, ih (i + 1) _ tk _ (acc.push (Value.ref h.objs.size)) (as ++ [h.objs.size]) (by omega) hlt (hst'.push O up)
      (fun b o h0 h1 h2 h3 h4 e => up b o h0 (hkp b o h1 h2 h3 h4 (hkeep b o h0 h1 h2 h3 h4 e))) (Heap.get?_update_self _ hS' rfl) (by rw [Array.toList_push, hacc, List.map_append]; rfl) (by rw [List.length_append, hal]; rfl) ⟨?_, ?_, ?_⟩⟩) (by rw [hsz]; omega) (by show (acc.push (Value.ref h.objs.size)).size ≤ sizeLine + 1; rw [Array.size_push, hsz]; omega)
    · refine List.pairwise_append.mpr ⟨hG.rise, List.pairwise_singleton _ _, fun a ha b hb => ?_⟩
      rw [List.mem_singleton.mp hb]
      exact hG.there ha
    · intro a ha
      rcases List.mem_append.mp ha with ha | ha
      · exact hG.above a ha
      · rw [List.mem_singleton.mp ha]; exact hSl
    · intro j b hj
      rcases Nat.lt_trichotomy j as.length with h1 | h1 | h1
      · rw [List.getElem?_append_left h1] at hj
        obtain ⟨x, y, e1, e2, e3⟩ := hG.pairs j b hj
        have ab := hG.above b (List.mem_of_getElem? hj)
        exact ⟨x, y, e1, e2, up b _ (Nat.ne_of_gt ab) (hkp b _ (Nat.ne_of_gt (Nat.lt_trans O.z ab)) (Nat.ne_of_gt (Nat.lt_trans O.TO ab)) (Nat.ne_of_gt (Nat.lt_trans O.i1 ab)) (Nat.ne_of_gt (Nat.lt_trans O.i2 ab)) e3)⟩
      · subst h1
        have hb : h.objs.size = b := by simpa using hj
        subst hb
        subst hal
        exact ⟨_, _, Array.getElem?_eq_getElem hlt, Array.getElem?_eq_getElem hlt2, up _ _ (Nat.ne_of_gt hSl) ht⟩
      · have hnone : (as ++ [h.objs.size])[j]? = none := List.getElem?_eq_none (by rw [List.length_append, List.length_singleton]; omega)
        rw [hnone] at hj; cases hj
end
theorem zip_no_len : typeLookup (.type "zip") "__len__" = pure none := by rw [typeLookup_type, builtinLookup_eq_fast]; kernel_rfl
theorem zip_no_hint : typeLookup (.type "zip") "__length_hint__" = pure none := by rw [typeLookup_type, builtinLookup_eq_fast]; kernel_rfl
section
variable {prog : Program} {w : World} {A : Around} {E : Value → Shared → Prop} {s : Shared} {z TI TO i1 i2 l1 l2 : Addr} {xs ys : Array Value}
theorem zl_extend {R : Result → Shared → Prop} (hh : A.handled = none) (S : Addr) (D : ZipApart z TI TO i1 i2 l1 l2) (O : Off z TI TO i1 i2 l1 l2 S) (hxy : xs.size = ys.size) (hn : xs.size ≤ sizeLine) (hst : ZSt z TI TO i1 i2 l1 l2 S xs ys 0 s.heap) (hzz : IsZip s.heap z TI TO .none) (res : Value) (c₀ : Nat) (hS : s.heap.get? S = some { cls := .type "list", data := .seq #[] c₀ })
    (hR : ∀ h' tk acc c as, (∀ b o, b ≠ S → b ≠ z → b ≠ TO → b ≠ i1 → b ≠ i2 → s.heap.get? b = some o → h'.get? b = some o) → h'.get? S = some { cls := .type "list", dict := none, data := .seq acc c, slots := #[] } → as.length = xs.size → PairsG xs ys S h' as →
      acc.toList = as.map Value.ref → R (.ok (.ret res)) { s with heap := h', toks := tk }) :
    wpAny (model prog w) A.in1 (Builtin.List.listExtendWith (.ref S) (.ref z) res)
      (fun fin s' => match fin with | .done f => R (.ok f) s' | .again c' => c'.quiet = true ∧ codeAny (model prog w) A c' R s') (fun e s' => R (.error e) s') s := by
  have hT : s.TypeIs (.ref z) "zip" := ⟨_, hzz, rfl⟩
  have hSz : S ≠ z := Nat.ne_of_gt O.z
  unfold Builtin.List.listExtendWith
  refine wpAny_bind (wpAny_typeOf hT ?_)
  have h1 : Builtin.List.listSameRef (.ref S) (.ref z) = false := by simp [Builtin.List.listSameRef, hSz]
  have h2 : (Value.type "zip" == Value.type "list") = false := by decide
  have h3 : (Value.type "zip" == Value.type "tuple") = false := by decide
  simp only [h1, h2, h3, Bool.or_false, Bool.false_eq_true, if_false]
  refine wpAny_bind (wpAny_pyIter_zip hzz ?_)
  refine wpAny_bind (wpAny_holding ?_)
  unfold Builtin.List.listLengthHint
  refine wpAny_bind (wpAny_specialOf hT zip_no_len ?_)
  show wpAny _ A.in1 (specialOf (Value.ref z) (Str.ofString "__length_hint__") >>= _) _ _ _
  refine wpAny_bind (wpAny_specialOf hT zip_no_hint ?_)
  refine wpAny_pure ?_
  show wpAny _ A.in1 (rule "list.extend.makes-room" >>= fun _ => Builtin.List.listTouch (.ref S) >>= fun _ =>
    again (.builtin "list.extend.loop" ⟨[.ref S, .ref z, res], []⟩)) _ _ _
  refine wpAny_bind (wpAny_rule ?_)
  refine wpAny_bind ?_
  show wpAny _ A.in1 (updateSeq S (·.push .none) >>= fun _ => updateSeq S (·.pop)) _ _ _
  refine wpAny_bind (wpAny_updateSeq hS rfl ?_)
  have hS₂ := Heap.get?_update_self (Obj.mapSeq (·.push Value.none)) hS rfl
  refine wpAny_updateSeq (hz := by seq_fits) hS₂ rfl ?_
  have hS₃ := Heap.get?_update_self (Obj.mapSeq (·.pop)) hS₂ rfl
  have oth : ∀ b o, b ≠ S → s.heap.get? b = some o → ((s.heap.update S (Obj.mapSeq (·.push Value.none))).update S (Obj.mapSeq (·.pop))).get? b = some o :=
    fun b o hb e => (Heap.get?_update_other _ _ (Ne.symm hb)).trans ((Heap.get?_update_other _ _ (Ne.symm hb)).trans e)
  refine wpAny_pure ⟨plainId_quiet F.plain_extend_loop _, zl_loop (s := s) (h₁ := s.heap) hh D O hxy hn res hR (xs.size - 0) 0 _ _ _ _ [] rfl (Nat.zero_le _) (hst.push O oth) (fun b o h0 _ _ _ _ e => oth b o h0 e) hS₃ rfl rfl ⟨.nil, by simp, fun j a h => by simp at h⟩⟩
theorem zl_call {Q : Value → Shared → Prop} (hh : A.handled = none) (D : ZipApart z TI TO i1 i2 l1 l2) (hlt : z < s.heap.objs.size ∧ TI < s.heap.objs.size ∧ TO < s.heap.objs.size ∧ i1 < s.heap.objs.size ∧ i2 < s.heap.objs.size ∧ l1 < s.heap.objs.size ∧ l2 < s.heap.objs.size) (hxy : xs.size = ys.size) (hn : xs.size ≤ sizeLine)
    (hTI : IsPair s.heap TI (.ref i1) (.ref i2)) (h1 : s.heap.IsListIter i1 l1 0) (h2 : s.heap.IsListIter i2 l2 0) (hl1 : s.heap.IsList l1 xs) (hl2 : s.heap.IsList l2 ys) (hz : IsZip s.heap z TI TO .none) (hTO : ∃ a b, IsPair s.heap TO a b)
    (hQ : ∀ h' tk acc c as, (∀ b o, b ≠ z → b ≠ TO → b ≠ i1 → b ≠ i2 → s.heap.get? b = some o → h'.get? b = some o) → h'.get? s.heap.objs.size = some { cls := .type "list", dict := none, data := .seq acc c, slots := #[] } → as.length = xs.size → PairsG xs ys s.heap.objs.size h' as →
      acc.toList = as.map Value.ref → Q (.ref s.heap.objs.size) { s with heap := h', toks := tk }) :
    wpAny (model prog w) A (call (.type "list") [.ref z]) Q E s := by
  refine callType_codes (Q₁ := fun obj s₁ => obj = .ref s.heap.objs.size ∧ s₁ = { s with heap := s.heap.push { cls := .type "list", data := .seq #[] } }) PySem.F.called_list (PySem.F.typeCall_list_1 _) PySem.F.entry_list_init
    (code_list_new _ ⟨rfl, rfl⟩) fun obj s₁ h₁ => ?_
  obtain ⟨rfl, rfl⟩ := h₁
  have hS : (s.heap.push { cls := .type "list", data := .seq #[] }).get? s.heap.objs.size = some { cls := .type "list", data := .seq #[] } := Heap.get?_push_size _ rfl
  obtain ⟨g1, g2, g3, g4, g5, g6, g7⟩ := hlt
  have O : Off z TI TO i1 i2 l1 l2 s.heap.objs.size := ⟨g1, g2, g3, g4, g5, g6, g7⟩
  have up : ∀ b o, s.heap.get? b = some o → (s.heap.push { cls := .type "list", data := .seq #[] }).get? b = some o := fun b o e => Heap.get?_push_of_some _ e
  have hst : ZSt z TI TO i1 i2 l1 l2 s.heap.objs.size xs ys 0 s.heap := ⟨hTI, h1, h2, hl1, hl2, .inl ⟨hz, hTO⟩⟩
  refine ⟨⟨_, hS, rfl⟩, PySem.F.args_list_init_2 _ _, ?_⟩
  show wpAny _ _ (do let old ← Builtin.List.listItems (.ref s.heap.objs.size); Builtin.List.listUpdate (.ref s.heap.objs.size) (fun _ => #[]); letGo old.toList.reverse; Builtin.List.listExtendWith (.ref s.heap.objs.size) (.ref z) .none) _ _ _
  refine wpAny_bind ?_
  unfold Builtin.List.listItems
  refine wpAny_bind (wpAny_seqItems hS rfl (wpAny_pure ?_))
  show wpAny _ _ (updateSeq s.heap.objs.size (fun _ => #[]) >>= fun _ => letGo (#[] : Array Value).toList.reverse >>= fun _ => Builtin.List.listExtendWith (.ref s.heap.objs.size) (.ref z) .none) _ _ _
  refine wpAny_bind (wpAny_updateSeq hS rfl ?_)
  have hS₂ := Heap.get?_update_self (Obj.mapSeq (fun _ => (#[] : Array Value))) hS rfl
  have oth : ∀ b o, b ≠ s.heap.objs.size → s.heap.get? b = some o → ((s.heap.push { cls := .type "list", data := .seq #[] }).update s.heap.objs.size (Obj.mapSeq (fun _ => (#[] : Array Value)))).get? b = some o :=
    fun b o hb e => (Heap.get?_update_other _ _ (Ne.symm hb)).trans (up b o e)
  refine wpAny_bind (wpAny_letGo ?_)
  refine zl_extend (A := A.in1) hh _ D O hxy hn (hst.push O oth) (oth _ _ (Nat.ne_of_lt g1) hz) .none _ hS₂ fun h' tk acc c as hk hS' hl hG hacc => ?_
  exact ⟨rfl, hQ h' tk acc c as (fun b o b1 b2 b3 b4 e => hk b o (Nat.ne_of_lt (Heap.lt_size e)) b1 b2 b3 b4 (oth b o (Nat.ne_of_lt (Heap.lt_size e)) e)) hS' hl hG hacc⟩
end
end Zl
namespace L2
open PySem PySem.Spec PyProof.Rows
def putP : Hp → List Addr → List V → List V → Hp
  | H, a :: as, x :: xs, y :: ys => putP (upd H a (.tup [x, y])) as xs ys
  | H, _, _, _ => H
theorem putP_off {b : Addr} : ∀ (as : List Addr) (xs ys : List V) (H : Hp), b ∉ as → putP H as xs ys b = H b
  | [], _, _, _, _ => rfl
  | _ :: _, [], _, _, _ => rfl
  | _ :: _, _ :: _, [], _, _ => rfl
  | a :: as, x :: xs, y :: ys, H, h => by
    show putP (upd H a (.tup [x, y])) as xs ys b = H b
    rw [putP_off as xs ys _ (fun z => h (List.mem_cons_of_mem _ z)), upd_ne (fun z => h (by rw [z]; exact List.mem_cons_self))]
theorem putP_at : ∀ (as : List Addr) (xs ys : List V) (H : Hp), as.length = xs.length → xs.length = ys.length → as.Nodup → ∀ (j : Nat) t, as[j]? = some t → ∃ x y, xs[j]? = some x ∧ ys[j]? = some y ∧ putP H as xs ys t = some (.tup [x, y])
  | [], _, _, _, _, _, _, _, _, h => by simp at h
  | _ :: _, [], _, _, h, _, _, _, _, _ => by simp at h
  | _ :: _, _ :: _, [], _, _, h, _, _, _, _ => by simp at h
  | a :: as, x :: xs, y :: ys, H, h1, h2, hn, j, t, ht => by
    have hn' := List.nodup_cons.mp hn
    cases j with
    | zero =>
      simp at ht; subst ht
      refine ⟨x, y, rfl, rfl, ?_⟩
      show putP (upd H a (.tup [x, y])) as xs ys a = _
      rw [putP_off as xs ys _ hn'.1, upd_same]
    | succ j =>
      obtain ⟨x', y', e1, e2, e3⟩ := putP_at as xs ys (upd H a (.tup [x, y])) (Nat.succ.inj h1) (Nat.succ.inj h2) hn'.2 j t (by simpa using ht)
      exact ⟨x', y', by simpa using e1, by simpa using e2, e3⟩
def tListZip (K : PySem.W.Frag) (ta : TA) : TE := fun σ H Q => ta σ H fun vs H1 => ∃ a b xs ys, vs = [V.ref a, .ref b] ∧ SqL K H1 a xs ∧ SqL K H1 b ys ∧ xs.length = ys.length ∧
  ∀ (p : Addr) (ts : List Addr) (H2 : Hp), Same H1 H2 → H1 p = none → H2 p = some (.lst (ts.map V.ref)) → ts.length = xs.length → (∀ (j : Nat) t, ts[j]? = some t → ∃ x y, xs[j]? = some x ∧ ys[j]? = some y ∧ H2 t = some (.tup [x, y])) → Q (.ref p) H2
section
variable {X : Cx}
theorem zip_laid {pins : List (Addr × Obj)} {σ : L2.St} {H : Hp} {s : Shared} {h' : Heap} {tk S : Nat} {xs ys : List V} {us ws : List Value} {acc : Array Value} {c : Nat} {as : List Addr} (I : Inv X pins σ H s) (hz : xs.length ≤ sizeLine) (hxy : xs.length = ys.length) (rx : Vals xs us) (ry : Vals ys ws) (hSS : s.heap.objs.size ≤ S)
    (hk : ∀ b o, s.heap.get? b = some o → h'.get? b = some o) (hS : h'.get? S = some { cls := .type "list", dict := none, data := .seq acc c, slots := #[] }) (hl : as.length = xs.length) (hG : Zl.PairsG us.toArray ws.toArray S h' as) (hacc : acc.toList = as.map Value.ref) :
    ∃ H' : Hp, Same H H' ∧ H S = none ∧ H' S = some (.lst (as.map V.ref)) ∧ (∀ (j : Nat) t, as[j]? = some t → ∃ x y, xs[j]? = some x ∧ ys[j]? = some y ∧ H' t = some (.tup [x, y])) ∧ Inv X pins σ H' { s with heap := h', toks := tk } := by
  have hSn : S ∉ as := fun z => Nat.lt_irrefl _ (hG.above _ z)
  have nd : as.Nodup := List.Pairwise.imp (fun {a b} (h : a < b) => Nat.ne_of_lt h) hG.rise
  have new : ∀ t ∈ as, H t = none := fun t ht => I.hok.fresh (Nat.le_trans hSS (Nat.le_of_lt (hG.above t ht)))
  have newS : H S = none := I.hok.fresh hSS
  have atP := putP_at as xs ys (upd H S (.lst (as.map V.ref))) hl hxy nd
  have off : ∀ b, b ∉ as → b ≠ S → putP (upd H S (.lst (as.map V.ref))) as xs ys b = H b := fun b h1 h2 => by rw [putP_off as xs ys _ h1, upd_ne h2]
  have low : ∀ b o, s.heap.get? b = some o → b ∉ as ∧ b ≠ S := fun b o e => ⟨fun z => absurd (Heap.lt_size e) (Nat.not_lt.mpr (Nat.le_trans hSS (Nat.le_of_lt (hG.above b z)))), Nat.ne_of_lt (Nat.lt_of_lt_of_le (Heap.lt_size e) hSS)⟩
  have kp : ∀ b u, H b = some u → (putP (upd H S (.lst (as.map V.ref))) as xs ys) b = some u := fun b u e => by
    rw [off b (fun z => by rw [new b z] at e; cases e) (fun z => by rw [z, newS] at e; cases e)]
    exact e
  have eS : putP (upd H S (.lst (as.map V.ref))) as xs ys S = some (.lst (as.map V.ref)) := by rw [putP_off as xs ys _ hSn, upd_same]
  refine ⟨putP (upd H S (.lst (as.map V.ref))) as xs ys, kp, newS, eS, atP, ?_⟩
  refine I.call' (ch := []) rfl ⟨fun b o q _ _ _ => hk b o q, fun b o q _ _ _ => ⟨o.slots, hk b o q⟩, fun b o q n _ => ?_, fun b o q _ => ⟨o, hk b o q⟩, fun b xs q => kp b _ q, fun b o u q => kp b _ q, fun b ps q => ⟨#[], by rw [kp b _ q]; simp⟩⟩ (fun b u q => ?_) I.bare fun b z => by simp at z
  · obtain ⟨z1, z2⟩ := low b o q
    rw [off b z1 z2]
    exact n
  · by_cases hb : b ∈ as
    · obtain ⟨j, e1⟩ := List.mem_iff_getElem?.mp hb
      obtain ⟨x, y, e2, e3, e4⟩ := atP j b e1
      rw [e4] at q
      cases q
      obtain ⟨u1, u2, f1, f2, f3⟩ := hG.pairs j b e1
      obtain ⟨v1, g1, g2⟩ := rx.get e2
      obtain ⟨v2, g3, g4⟩ := ry.get e3
      have f1 : us[j]? = some u1 := by simpa using f1
      have f2 : ws[j]? = some u2 := by simpa using f2
      rw [g1] at f1; cases f1
      rw [g3] at f2; cases f2
      exact ⟨by show 2 ≤ sizeLine; decide, [u1, u2], .cons g2 (.cons g4 .nil), ⟨_, f3, rfl, _, rfl⟩⟩
    · by_cases hb2 : b = S
      · rw [hb2] at q ⊢
        rw [eS] at q
        cases q
        refine ⟨by rw [List.length_map]; omega, acc.toList, c, by rw [hacc]; exact LiI.vals_refs as, ?_⟩
        rw [Array.toArray_toList]
        exact hS
      · rw [off b hb hb2] at q
        exact (I.hok b u q).stay (fun d v _ y => hk d v y) (fun d y => kp d _ y) fun d xs y => kp d _ y
theorem pe_listZip {e e2 : Expr} {ta : TA} {p p2 q pos : Pos} (hc : X.calm = true) (hg : Gl X "list") (hm : X.mg "list" = none) (hv : bootBuiltins "list" = some (.type "list")) (hg2 : Gl X "zip") (hm2 : X.mg "zip" = none) (ha : PA X [e, e2] ta)
    (hs : starEach [e, e2] X.env = (false, eval e X.env) :: starEach [e2] X.env := by rfl) (hpl : (backTo q (starEach [e2] X.env)).any (·.1) = false := by rfl) :
    PE X (.Call (.Name "list" p) [.Call (.Name "zip" p2) [e, e2] [] q] [] pos) (tListZip X.K ta) := by
  refine ⟨fun pins s σ H Q I h => ?_⟩
  refine Call_ (ld_blt I hg hm hv ?_)
  refine PyProof.Rows.callWith_type1 (PyProof.Rows.args_cons ?_ rfl) rfl rfl
  refine Call_ (ld_blt I hg2 hm2 PyProof.Rows.boot_zip (PyProof.Rows.callWith_type1 (thn (ha.run q pins s σ H _ I h) fun us s1 ⟨vs, H1, I1, r1, q1⟩ => ?_) hs hpl))
  obtain ⟨a, b, xs, ys, ex, hqx, hqy, hxy, q1⟩ := q1
  subst ex
  cases r1 with
  | cons r rr =>
    cases rr with
    | cons r' rr =>
      cases rr
      cases r
      cases r'
      obtain ⟨its, rv, p1, hz1⟩ := I1.list hqx
      obtain ⟨its2, rv2, pp2, hz2⟩ := I1.list hqy
      have ln1 : xs.length = its.length := rv.length
      have ln2 : ys.length = its2.length := rv2.length
      refine call_zip_2 p1.isList pp2.isList fun h' hz hTI hTO h1 h2 hsz hk => PyProof.Rows.args_nil ?_
      have D := PySem.W.ktu_apart s1.heap.objs.size a b p1.lt pp2.lt
      have la := p1.lt
      have lb := pp2.lt
      refine Zl.zl_call (s := { s1 with heap := h' }) (I1.ok.hd hc) D ?_ (by simp; omega) (by simp; omega) hTI h1 h2 (p1.isList.at fun o e => hk _ o e) (pp2.isList.at fun o e => hk _ o e) hz ⟨_, _, hTO⟩ fun h2' tk acc c as hk2 hS hl hG hacc => ?_
      · have up : ∀ k : Nat, k < s1.heap.objs.size + 5 → k < h'.objs.size := fun k hk => by rw [hsz]; exact hk
        exact ⟨up _ (Nat.add_lt_add_left (by decide) _), up _ (Nat.add_lt_add_left (by decide) _), up _ (Nat.add_lt_add_left (by decide) _), up _ (Nat.lt_add_of_pos_right (by decide)), up _ (Nat.add_lt_add_left (by decide) _), up _ (Nat.lt_add_right _ la), up _ (Nat.lt_add_right _ lb)⟩
      · have hS5 : s1.heap.objs.size ≤ h'.objs.size := by omega
        obtain ⟨H', k1, k2, k3, k4, J⟩ := zip_laid (tk := tk) (S := h'.objs.size) I1 hz1 hxy rv rv2 hS5 (fun b o e => hk2 b o (Nat.ne_of_lt (Nat.lt_add_right _ (Heap.lt_size e))) (Nat.ne_of_lt (Nat.lt_add_right _ (Heap.lt_size e))) (Nat.ne_of_lt (Heap.lt_size e)) (Nat.ne_of_lt (Nat.lt_add_right _ (Heap.lt_size e))) (hk b o e)) hS (by rw [hl]; simp; omega) hG hacc
        exact ⟨.ref _, H', J, rfl, q1 _ as H' k1 k2 k3 (by rw [hl]; simp; omega) k4⟩
end
end L2

set_option Elab.async false
set_option linter.all false
set_option maxRecDepth 100000
namespace L2
open PySem PySem.Spec PyProof.Rows
/-! list + list of lists that are read -/
def rCatQ (K : PySem.W.Frag) : R2 := fun x y H Q => ∃ l b xs zs, x = .ref l ∧ y = .ref b ∧ SqL K H l xs ∧ SqL K H b zs ∧ xs.length + zs.length ≤ sizeLine ∧ ∀ p, H p = none → Q (.ref p) (upd H p (.lst (xs ++ zs)))
theorem op_catQ {X : Cx} : OpR X (binaryOp .Add) (rCatQ X.K) := by
  intro pins s σ H x y v u Q I rx ry h
  obtain ⟨l, b, xs, zs, rfl, rfl, hH, hB, hz, q⟩ := h
  cases rx
  cases ry
  obtain ⟨its, r, pl, z⟩ := I.list hH
  obtain ⟨its2, r2, pl2, z2⟩ := I.list hB
  have hl := r.length
  have hl2 := r2.length
  obtain ⟨⟨cls, dd, data, sl⟩, ho, hc, n, hd⟩ := pl.isList
  obtain ⟨⟨cls2, dd2, data2, sl2⟩, ho2, hc2, n2, hd2⟩ := pl2.isList
  simp only at hc hd hc2 hd2
  subst hc hd hc2 hd2
  refine concat_meets ⟨_, ho, rfl⟩ ⟨_, ho2, rfl⟩ noFill_list_add seq_list_add PySem.F.slot_list_add PySem.F.entry_list_add (PySem.F.args_list_add_2 _ _) (list_addW l b its.toArray its2.toArray n n2 dd dd2 sl sl2 (by simp; omega)) ⟨ho, ho2, ?_⟩
  have ea : its.toArray ++ its2.toArray = (its ++ its2).toArray := by simp
  rw [ea]
  exact ⟨.ref _, _, I.lnew (t' := s.toks) (r.append r2) (by rw [List.length_append]; omega), rfl, q _ I.fresh⟩
end L2
namespace Rd
open PySem PySem.Spec PyProof.Rows L2
variable {K : PySem.W.Frag} {σ : L2.St} {H : Hp} {D : Ends} {Q : VK} {ta tb te tv : TE} {x y v : V} {tr : TA}
def CatQ (K : PySem.W.Frag) (Q : VK) (x y : V) (H : Hp) : Prop := rCatQ K x y H Q
theorem catQI (h : CatQ K Q x y H) : rCatQ K x y H Q := h
theorem catQ {a b : Addr} {xs zs : List V} (h1 : SqL K H a xs) (h2 : SqL K H b zs) (s : xs.length + zs.length ≤ 100000) (h : ∀ p H', H p = none → Same H H' → H' p = some (.lst (xs ++ zs)) → Q (.ref p) H') : CatQ K Q (.ref a) (.ref b) H := ⟨a, b, xs, zs, rfl, rfl, h1, h2, sz s, fun p np => h p _ np (same_new np) upd_same⟩
def RevL (K : PySem.W.Frag) (Q : VK) (x : V) (H : Hp) : Prop := ∃ a xs, x = .ref a ∧ SqL K H a xs ∧ ∀ p, H p = none → Q (.ref p) (upd H p (.lst xs.reverse))
theorem revN (h : te σ H (RevL K Q)) : tRevL K te σ H Q := h
theorem revq {a : Addr} {xs : List V} (s : SqL K H a xs) (h : ∀ p H', H p = none → Same H H' → H' p = some (.lst xs.reverse) → Q (.ref p) H') : RevL K Q (.ref a) H := ⟨a, xs, rfl, s, fun p np => h p _ np (same_new np) upd_same⟩
theorem ext {l b : Addr} {xs zs : List V} (h : H l = some (.lst xs)) (hb : H b = some (.lst zs)) (s : xs.length + zs.length ≤ 100000) (q : Q .non (upd H l (.lst (xs ++ zs)))) : rExtend (.ref l) [.ref b] H Q := ⟨l, b, xs, zs, rfl, rfl, h, hb, sz s, q⟩
def LzG (K : PySem.W.Frag) (Q : VK) (vs : List V) (H1 : Hp) : Prop := ∃ a b xs ys, vs = [V.ref a, .ref b] ∧ SqL K H1 a xs ∧ SqL K H1 b ys ∧ xs.length = ys.length ∧
  ∀ (p : Addr) (ts : List Addr) (H2 : Hp), Same H1 H2 → H1 p = none → H2 p = some (.lst (ts.map V.ref)) → ts.length = xs.length → (∀ (j : Nat) t, ts[j]? = some t → ∃ x y, xs[j]? = some x ∧ ys[j]? = some y ∧ H2 t = some (.tup [x, y])) → Q (.ref p) H2
theorem lzip (h : tr σ H (LzG K Q)) : tListZip K tr σ H Q := h
theorem lz {a b : Addr} {xs ys : List V} (h1 : SqL K H a xs) (h2 : SqL K H b ys) (l : xs.length = ys.length) (q : ∀ (p : Addr) (ts : List Addr) (H2 : Hp), Same H H2 → H p = none → H2 p = some (.lst (ts.map V.ref)) → ts.length = xs.length → (∀ (j : Nat) t, ts[j]? = some t → ∃ x y, xs[j]? = some x ∧ ys[j]? = some y ∧ H2 t = some (.tup [x, y])) → Q (.ref p) H2) : LzG K Q [.ref a, .ref b] H := ⟨a, b, xs, ys, rfl, h1, h2, l, q⟩
end Rd
namespace L2
open PySem PySem.Spec PyProof.Rows
/-- (n1, n2) > (m1, m2) -/
def rGtP (K : PySem.W.Frag) : R2 := fun x y H Q => ∃ (a b : Addr) (n1 n2 m1 m2 : Int), x = .ref a ∧ y = .ref b ∧ SqT K H a [.int n1, .int n2] ∧ SqT K H b [.int m1, .int m2] ∧ Q (.bl (decide (m1 < n1 ∨ (n1 = m1 ∧ m2 < n2)))) H
theorem op_gtP {X : Cx} (hu : X.A.units < cLine) : OpR X (compareOp .Gt) (rGtP X.K) := by
  intro pins s σ H x y v u Q I rx ry h
  obtain ⟨a, b, n1, n2, m1, m2, rfl, rfl, ha, hb, q⟩ := h
  cases rx
  cases ry
  obtain ⟨its, r1, p1, _⟩ := I.tuple ha
  obtain ⟨its2, r2, p2, _⟩ := I.tuple hb
  have i1 : IntsAre its [n1, n2] := Vals.ints (ns := [n1, n2]) r1
  have i2 : IntsAre its2 [m1, m2] := Vals.ints (ns := [m1, m2]) r2
  have e1 : its.toArray.size = 2 := by rw [List.size_toArray]; exact i1.length
  have e2 : its2.toArray.size = 2 := by rw [List.size_toArray]; exact i2.length
  have at1 : ∀ j (h1 : j < its.toArray.size), ∃ t, its.toArray[j] = .int ([n1, n2].getD j 0) t := fun j h1 => PyProof.Rows.IntsAre.int_at i1 _ _ (by simp at h1; simp [h1])
  have at2 : ∀ j (h1 : j < its2.toArray.size), ∃ t, its2.toArray[j] = .int ([m1, m2].getD j 0) t := fun j h1 => PyProof.Rows.IntsAre.int_at i2 _ _ (by simp at h1; simp [h1])
  have R := Ob.RcOp.tuples_gt (A := X.A) (s := s) (e := fun j => decide ([n1, n2].getD j 0 = [m1, m2].getD j 0)) (r := fun j => decide ([m1, m2].getD j 0 < [n1, n2].getD j 0)) p1 p2 hu (fun j h1 h2 => by
    obtain ⟨t, et⟩ := at1 j h1
    obtain ⟨t', et'⟩ := at2 j h2
    rw [et, et']
    have z : ([n1, n2].getD j 0 == [m1, m2].getD j 0) = decide ([n1, n2].getD j 0 = [m1, m2].getD j 0) := by
      by_cases q : [n1, n2].getD j 0 = [m1, m2].getD j 0
      · rw [decide_eq_true q]; exact beq_iff_eq.mpr q
      · rw [decide_eq_false q]; exact beq_eq_false_iff_ne.mpr q
    rw [← z]
    exact SeqAt.EqAt.int_int _ _ _ _) (fun j h1 h2 _ => by
    obtain ⟨t, et⟩ := at1 j h1
    obtain ⟨t', et'⟩ := at2 j h2
    rw [et, et']
    exact Ob.RcOp.gt_int _ _ _ _)
  rw [e1, e2] at R
  have ev : Ob.lexAt (fun j => decide ([n1, n2].getD j 0 = [m1, m2].getD j 0)) (fun j => decide ([m1, m2].getD j 0 < [n1, n2].getD j 0)) (decide (2 > 2)) 0 (min 2 2) = decide (m1 < n1 ∨ (n1 = m1 ∧ m2 < n2)) := by
    show Ob.lexAt _ _ _ 0 2 = _
    rw [Ob.lexAt_succ, Ob.lexAt_succ, Ob.lexAt_zero]
    show (if decide (n1 = m1) = true then (if decide (n2 = m2) = true then decide (2 > 2) else decide (m2 < n2)) else decide (m1 < n1)) = _
    by_cases h1 : n1 = m1
    · rw [if_pos (decide_eq_true h1)]
      by_cases h2 : n2 = m2
      · rw [if_pos (decide_eq_true h2)]
        exact (decide_eq_false (by omega)).trans (decide_eq_false (by omega)).symm
      · rw [if_neg (by simp [h2])]
        exact decide_eq_decide.mpr (by omega)
    · rw [if_neg (by simp [h1])]
      exact decide_eq_decide.mpr (by omega)
  exact R _ _ _ _ ⟨.bl _, H, I, rfl, by rw [ev]; exact q⟩
end L2
namespace Rd
open PySem PySem.Spec PyProof.Rows L2
theorem gtP {K : PySem.W.Frag} {H : Hp} {Q : VK} {a b : Addr} {n1 n2 m1 m2 : Int} (h1 : H a = some (.tup [.int n1, .int n2])) (h2 : H b = some (.tup [.int m1, .int m2])) (q : Q (.bl (decide (m1 < n1 ∨ (n1 = m1 ∧ m2 < n2)))) H) : rGtP K (.ref a) (.ref b) H Q := ⟨a, b, n1, n2, m1, m2, rfl, rfl, SqT.of h1, SqT.of h2, q⟩
theorem glst {K : PySem.W.Frag} {H : Hp} {σ : L2.St} {p : Addr} {xs : List V} {n : Nat} {f : TGs} {Q : L2.St → Hp → Prop} (h : H p = some (.lst xs)) (l : xs.length = n) (q : f xs σ H Q) : gLst K n f (.ref p) σ H Q := ⟨p, xs, rfl, SqL.of h, l, q⟩
end Rd
namespace Rd
open PySem PySem.Spec PyProof.Rows L2
theorem revR1 {te : TE} {σ : L2.St} {H : Hp} {R : It → Hp → Prop} (h : te σ H fun x H1 => ∃ n, x = .int n ∧ (-(2 ^ 62) ≤ (0 : Int) ∧ (0 : Int) < 2 ^ 62 ∧ -(2 ^ 62) ≤ n ∧ n < 2 ^ 62 ∧ R (Itc ((0 : Int) + (((n - 0).toNat : Nat) : Int) - 1) (-1) (n - 0).toNat) H1)) : iRevR (tRg1 te) σ H R := h
end Rd

set_option Elab.async false
set_option linter.all false
set_option maxRecDepth 100000
set_option maxHeartbeats 2000000
/-! a law whose own body shows data by repr: its promise knows that nothing is being shown around it -/
namespace L2
open PySem PySem.Spec PyProof.Rows
/-- as FnOk, where no object is under way in a repr -/
structure FnG (P : Program) (w : World) (K : PySem.W.Frag) (mg : Str → Option Value) (base : Heap) (k : Nat) (f : Addr) (fd : FuncData) (ps : List Str) (sp : Sp) : Prop where
  len : ∀ vs H Q E, sp vs H Q E → vs.length = ps.length
  run : ∀ (A : Around), A.guards = some [] → Room k A → ∀ (outer : List Env) (s : Shared) (H : Hp), Env0 P w K mg base A outer s H →
    ∀ (args : Args) (us : List Value) (vs : List V) (Q : VK) (E : XK), BindsTo s fd args (ps.zip us) → Vals vs us → sp vs H Q E → codeAny (model P w) A (.call (.ref f) args) (CR CX0 outer P w H s Q E) s
section
variable {P : Program} {w : World} {K : PySem.W.Frag} {mg : Str → Option Value} {base : Heap}
theorem Fun.okG {x qual : Str} {st : Stmt} {f : Addr} {fd : FuncData} {N ps : List Str} {k : Nat} {sp : Sp} (F : Fun K x qual st f fd) (S : FnScope N ps (defScope st)) (len : ∀ vs H Q E, sp vs H Q E → vs.length = ps.length)
    (body : ∀ (cdv : Value) (A : Around) (outer : List Env) (s : Shared) (H : Hp) (vs : List V) (Q : VK) (E : XK), A.guards = some [] → Room k (A.deeper (envOfC qual (defScope st) s.heap.objs.size f cdv)) → sp vs H Q E →
      ∃ t, PSs (cxOf CX0 P w K mg base N qual (defScope st) f cdv A outer s H E).nox (defBody st) t ∧ t { nx := fun _ H' => Q .non H', rt := Q } (start N vs) H) : FnG P w K mg base (k + 1) f fd ps sp := by
  obtain ⟨oc, od, kV, doc, pm, an, cdv, ct, osl, rfl, lk, code⟩ := F.ex
  constructor
  · exact len
  intro A gA room outer s H env args us vs Q E bind rel want
  have nvs := len vs H Q E want
  have inK : K.In s.heap := env.mod.kin.keeps fun b o e => (env.bs b o e).1
  have nolim : s.heap.NoLimit := env.mod.nolimit.keeps fun b o e => (env.bs b o e).1
  obtain ⟨t, pt, rt⟩ := body cdv A outer s H vs Q E gA (room.deeper _) want
  apply codeAny_call_function room.depth (inK _ _ lk) rfl S.co S.gen rfl (PySem.W.codeRec_of inK code)
  apply bind
  refine wpAny_newFunctionEnv_cells S.kind (fun y my => ?_) fun e' he' s1 inc => ?_
  · obtain ⟨n, v⟩ := y
    cases S.par n (List.of_mem_zip my).1 with
    | inl h => exact .inl h
    | inr h => exact .inr ⟨h, PySem.W.cellsFrom_some _ _ _ (.inl h)⟩
  cases he'
  refine ⟨nolim.keeps inc.toInCall.keep, codeAny_func ?_⟩
  have I0 : Inv (cxOf CX0 P w K mg base N qual (defScope st) f cdv A outer s H E) [] (start N vs) H s1 := inv_start S room.hd env nvs rel inc
  refine wpAny_mono (pt.nox.run [] s1 (start N vs) H _ I0 rt) ?_ fun _ _ h => h
  intro fl s' h
  cases fl with
  | ret u =>
    obtain ⟨v, _, H', J, r, q⟩ := h
    exact ⟨v, H', J.os, J.bare, J.base, J.hok, r, q⟩
  | next =>
    obtain ⟨_, H', J, q⟩ := h
    exact ⟨V.non, H', J.os, J.bare, J.base, J.hok, rfl, q⟩
  | brk => obtain ⟨_, _, _, q⟩ := h; exact q.elim
  | cont => obtain ⟨_, _, _, q⟩ := h; exact q.elim
end
/-- the law's row from such a promise -/
theorem walk_g {l : PySem.W.OpenLaw} {n k : Nat} {q : Program} {loose : List Str} {XP : (Str → Option Value) → Heap → Prop} {YP : World → Heap → Prop} {d : DefRec} {K : Params → PySem.W.Frag} {sp : World → Sp} {x : Str}
    (most : l.most = some n) (small : n ≤ sizeLine) (nodf : d.params.defaults = []) (room : Room k callerA) (part : ∀ (w : World) (h : Heap), YP w h → (K w.params).In h)
    (F : ∀ (w : World) (mg : Str → Option Value) (fa : Addr) (h : Heap), (K w.params).In h → h.Ns mainGlobals mg → mg d.name = some (.ref fa) →
      ∃ fd : FuncData, (∀ (s : Shared) (u : Value), BindsTo s fd ⟨[u], []⟩ [(x, u)]) ∧ ∀ base : Heap, FnG l.prog w (K w.params) mg base k fa fd [x] (sp w))
    (holds : ∀ (w : World) (H : Hp) (a : Addr) (ns : List Int), ns.length ≤ n → SqL (K w.params) H a (ns.map V.int) → sp w [.ref a] H (fun v _ => v = .bl true) fun _ _ _ => False) :
    PySem.W.WalkO q loose XP YP l.row.toRowW d [] (fun f vs => PySem.call f vs) := by
  apply Att.attach_call most nodf
  intro w s0 s mg mb fa o pm cd doc a vs ns G Y _ _ _ isLaw obj hin len gens
  have inK := part w _ Y
  obtain ⟨fd, bind, ok⟩ := F w mg fa _ inK G.T.g isLaw
  -- the heap as told: the script alone, unless it is the module's own
  let H : Hp := fun b => if b = a ∧ (K w.params).lookup a = none then some (.frz { cls := .type "list", data := .seq vs.toArray } (.lst (ns.map V.int))) else none
  have hAt : ∀ {b u}, H b = some u → b = a ∧ (K w.params).lookup a = none ∧ u = .frz { cls := .type "list", data := .seq vs.toArray } (.lst (ns.map V.int)) := by
    intro b u e
    by_cases z : b = a ∧ (K w.params).lookup a = none
    · rw [show H b = _ from if_pos z] at e
      exact ⟨z.1, z.2, (Option.some.inj e).symm⟩
    · rw [show H b = _ from if_neg z] at e; cases e
  have rv := vals_ints hin
  have lz : ns.length ≤ sizeLine := Nat.le_trans len small
  have seq : SqL (K w.params) H a (ns.map V.int) := by
    cases z : (K w.params).lookup a with
    | none => exact .inl (.inr ⟨_, if_pos ⟨rfl, z⟩⟩)
    | some o' =>
      have e := inK a o' z
      rw [obj] at e
      cases e
      exact .inr ⟨_, vs.toArray, _, z, rfl, rfl, rfl, by rw [List.size_toArray, hin.length]; exact lz, by simpa using rv⟩
  have hok : HOk l.prog w H s.heap := by
    intro b u e
    obtain ⟨rfl, _, rfl⟩ := hAt e
    exact ⟨obj, by rw [List.length_map]; exact lz, vs, _, rv, obj⟩
  have off : ∀ {b o}, s.heap.get? b = some o → (∀ us m, o.data ≠ .seq us m) → H b = none := by
    intro b o e no
    cases z : H b with
    | none => rfl
    | some u =>
      obtain ⟨rfl, _, _⟩ := hAt z
      rw [obj] at e; cases e
      exact (no _ _ rfl).elim
  have low : ∀ {b m}, s.heap.Ns b m → (hidT s.heap H).Ns b m := by
    rintro b m ⟨o, es, ep, e, dt, r⟩
    exact ⟨o, es, ep, hidT_get e (off e (by rw [dt]; exact fun _ _ z => by cases z)), dt, r⟩
  have inB : (K w.params).In (hidT s.heap H) := by
    intro b o e
    apply hidT_get (inK b o e)
    cases z : H b with
    | none => rfl
    | some u =>
      obtain ⟨rfl, none', _⟩ := hAt z
      rw [none'] at e; cases e
  obtain ⟨mc, g1, g2⟩ := G.T.nolimit
  have start : Env0 l.prog w (K w.params) mg (hidT s.heap H) callerA [] s H := {
    frames := rfl
    mod := ⟨inB, low G.T.g, ⟨mb, low G.T.b, G.T.builtins⟩, mc, low g1, g2⟩
    bs := fun _ _ e => of_hidT e
    bsz := Nat.le_of_eq (hidT_size _ _)
    funs := trivial
    frf := fun b m => nomatch (show b ∈ ([] : List Addr) from m)
    hok := hok
    bare := .of_eq gens }
  have run := (ok (hidT s.heap H)).run callerA rfl room [] s H start ⟨[.ref a], []⟩ [.ref a] [.ref a] _ _ (bind s (.ref a)) (.cons rfl .nil) (holds w H a ns len seq)
  refine codeAny_mono run ?_
  intro r s' h
  match r, h with
  | .error _, h => exact h.elim
  | .ok .next, h => exact h.elim
  | .ok .brk, h => exact h.elim
  | .ok .cont, h => exact h.elim
  | .ok (.ret u), h =>
    obtain ⟨v, H', os, bare, un, hok', rel, isT⟩ := h
    have e1 : v = .bl true := isT
    subst e1
    have e2 : u = Value.bool true := rel
    subst e2
    refine ⟨rfl, OldK.of_keep fun b o e => ?_, os, bare⟩
    cases z : H b with
    | none => exact un.keep b o e z (fun m => nomatch (show b ∈ ([] : List Addr) from m)) (fun m => nomatch m)
    | some t =>
      obtain ⟨rfl, _, rfl⟩ := hAt z
      have two := hok' b _ (un.frzs b _ _ z)
      rw [obj] at e; cases e
      exact two.1
theorem room70 {k : Nat} {A : Around} (r : Room k A) : A.units + 70 < cLine := by have := r.un; omega
/-! repr of data -/
section
variable {X : Cx}
def rReprD (K : PySem.W.Frag) : List V → Hp → VK → Prop := fun vs H Q => ∃ (a : Addr) (d : PyData), vs = [V.ref a] ∧ Dp K H (.ref a) d ∧ d.showable = true ∧ d.hasDict = false ∧ d.depth ≤ 64 ∧ d.shown.length ≤ sizeLine ∧ Q (.str d.shown) H
theorem cr_reprD (gA : X.A.guards = some []) (un : X.A.units + 70 < cLine) : CallR X (.builtin "repr") (rReprD X.K) := by
  intro pins s σ H xs us Q I r h
  obtain ⟨a, d, rfl, dp, sh, nd, dep, len, q⟩ := h
  rw [Vals.ref1 r]
  obtain ⟨as, rd⟩ := Dp.reads I d (.ref a) (.ref a) dp rfl
  exact repr_of_reads' rd sh (PyData.noDict_hsm nd) gA (by omega) (fun _ _ e => e) (fun h' u tk hk => ⟨.str d.shown, H, I.kept hk, ⟨_, rfl⟩, q⟩) len
end
end L2

set_option Elab.async false
set_option linter.all false
set_option maxRecDepth 100000
/-! dicts whose keys are texts: what a reading asks of them, over lists of pairs -/
namespace Rd
open PySem PySem.Spec PyProof.Rows L2
variable {K : PySem.W.Frag} {σ : L2.St} {H : Hp} {D : Ends} {Q : VK} {ta tb te tc td ty tx : TE} {x y v : V}
abbrev kS (p : Str × V) : Key × V := (Sum.inr p.1, p.2)
/-- a dict of texts to values, in order -/
abbrev DS (m : List (Str × V)) : HO := .dK (m.map kS)
def lks (m : List (Str × V)) (k : Str) : Option V := (m.find? fun p => decide (p.1 = k)).map (·.2)
theorem kS_eq (p : Str × V) (k : Str) : decide ((kS p).1 = Sum.inr k) = decide (p.1 = k) := by
  by_cases h : p.1 = k
  · rw [decide_eq_true h, decide_eq_true (by rw [← h])]
  · rw [decide_eq_false h, decide_eq_false fun z => h (Sum.inr.inj z)]
theorem valV_ds (m : List (Str × V)) (k : Str) : valV (m.map kS) (Sum.inr k) = lks m k := by
  unfold valV lks
  induction m with
  | nil => rfl
  | cons a r ih =>
    rw [List.map_cons, List.find?_cons, List.find?_cons, kS_eq a k]
    cases decide (a.1 = k) with
    | true => rfl
    | false => exact ih
theorem get_ds {a : Addr} {m : List (Str × V)} {k : Str} (h : L2.Rd H a (DS m)) : DGet H a (.str k) (lks m k) := .inl ⟨_, Sum.inr k, h, rfl, (valV_ds m k).symm⟩
theorem dgetS {a : Addr} {m : List (Str × V)} {k : Str} (h : L2.Rd H a (DS m)) (e : lks m k = some v) (q : Q v H) : DgG Q (.ref a) (.str k) H := ⟨a, v, rfl, e ▸ get_ds h, q⟩
theorem dgetSo {a : Addr} {m : List (Str × V)} {k : Str} (h : H a = some (DS m)) (e : lks m k = some v) (q : Q v H) : DgG Q (.ref a) (.str k) H := dgetS (.inl h) e q
/-- a key that is new -/
theorem put_new {m : List (Str × V)} {k : Str} (h : ∀ p ∈ m, p.1 ≠ k) : putK (m.map kS) (Sum.inr k) v = (m ++ [(k, v)]).map kS := by
  unfold putK
  rw [if_neg, List.map_append]
  · rfl
  · rw [List.any_map]
    intro c
    obtain ⟨p, mp, e⟩ := List.any_eq_true.mp c
    have e : decide ((kS p).1 = Sum.inr k) = true := e
    rw [kS_eq] at e
    exact h p mp (of_decide_eq_true e)
theorem dputS {a : Addr} {m : List (Str × V)} {k : Str} (h : H a = some (DS m)) (n : ∀ p ∈ m, p.1 ≠ k) (l : m.length < 100000) (q : D.nx σ (upd H a (DS (m ++ [(k, v)])))) : DpG D σ (.ref a) (.str k) v H :=
  ⟨a, _, rfl, .inl ⟨_, Sum.inr k, h, rfl, by rw [List.length_map]; exact szl l, rfl⟩, by rw [put_new n]; exact q⟩
theorem merge_new : ∀ (m : List (Str × V)) (l : List (Str × V)), (l.map (·.1) ++ m.map (·.1)).Nodup → mergeK (l.map kS) (m.map kS) = (l ++ m).map kS
  | [], l, _ => by rw [List.append_nil]; rfl
  | p :: r, l, h => by
    have hn : ∀ q ∈ l, q.1 ≠ p.1 := fun q mq z => by
      rw [List.nodup_append] at h
      exact h.2.2 q.1 (List.mem_map_of_mem mq) p.1 (by simp) z
    have e : mergeK (l.map kS) ((p :: r).map kS) = mergeK (putK (l.map kS) (Sum.inr p.1) p.2) (r.map kS) := rfl
    rw [e, put_new hn, merge_new r (l ++ [(p.1, p.2)]) (by simpa using h)]
    simp
theorem inV_strz (x : Str) (r : List Str) : inV (.str x) (r.map V.str) = decide (x ∈ r) := by
  unfold inV
  rw [List.any_map]
  by_cases h : x ∈ r
  · rw [decide_eq_true h, List.any_eq_true]
    exact ⟨x, h, beq_self_eq_true x⟩
  · rw [decide_eq_false h, List.any_eq_false]
    intro y hy e
    have e2 : (y == x) = true := e
    rw [beq_iff_eq] at e2
    exact h (e2 ▸ hy)
theorem inStrs {p : Addr} {ns : List Str} {n : Str} (h : H p = some (.lst (ns.map V.str))) (q : Q (.bl (decide (n ∈ ns))) H) : rIn K false (.str n) (.ref p) H Q :=
  ⟨p, _, rfl, .inl (SqL.of h), rfl, flat_strs _, by rw [inV_strz]; exact q⟩
/-! ### a display -/
def DspG (Q : VK) (p : Addr) (ps : List (V × V)) (H2 : Hp) : Prop := H2 p = some (.dK []) ∧ ∃ kvs : List (Key × V), ps = kvs.map (fun kv => (kV kv.1, kv.2)) ∧ kvs.length ≤ 15 ∧ Q (.ref p) (upd H2 p (.dK (mergeK [] kvs)))
def NewP (trs : List (TE × TE)) (σ : L2.St) (Q : VK) (H : Hp) : Prop := ∀ p, H p = none → tPairs trs σ (upd H p (.dK [])) fun ps H2 => DspG Q p ps H2
theorem disp {trs : List (TE × TE)} (h : NewP trs σ Q H) : tDisp trs σ H Q := h
theorem dsp {trs : List (TE × TE)} (h : ∀ p H', H p = none → Same H H' → H' p = some (.dK []) → tPairs trs σ H' fun ps H2 => DspG Q p ps H2) : NewP trs σ Q H := fun p np => h p _ np (same_new np) upd_same
theorem pnil {Q : List (V × V) → Hp → Prop} (h : Q [] H) : tPairs [] σ H Q := h
theorem pcons {Q : List (V × V) → Hp → Prop} {tk tv : TE} {r : List (TE × TE)} (h : tk σ H fun x H1 => tv σ H1 fun y H2 => tPairs r σ H2 fun ps H3 => Q ((x, y) :: ps) H3) : tPairs ((tk, tv) :: r) σ H Q := h
theorem dspS {p : Addr} {ps : List (V × V)} (m : List (Str × V)) (e : ps = m.map fun q => (V.str q.1, q.2)) (hp : H p = some (.dK [])) (l : m.length ≤ 15) (n : (m.map (·.1)).Nodup) (q : Q (.ref p) (upd H p (DS m))) : DspG Q p ps H :=
  ⟨hp, m.map kS, by rw [e, List.map_map]; rfl, by rw [List.length_map]; exact l, by
    have := merge_new m [] (by simpa using n)
    rw [List.map_nil, List.nil_append] at this
    rw [this]; exact q⟩
end Rd

set_option Elab.async false
set_option linter.all false
set_option maxRecDepth 100000
/-! repr of a dict of texts to lists of ints -/
namespace L2
open PySem PySem.Spec PyProof.Rows
theorem reads_ints {h : Heap} : ∀ {ns : List Int} {us : List Value}, Vals (ns.map V.int) us → ReadsAll h us (ns.map PyData.int) []
  | [], _, r => by cases r; exact .nil
  | n :: ns, _, r => by
    cases r with
    | cons r1 r2 =>
      obtain ⟨t, rfl⟩ := r1
      exact .cons (Reads.int n t) (reads_ints r2)
def nmD (m : List (Str × Addr × List Int)) : PyData := .dict (m.map fun p => (.str p.1, .list (p.2.2.map PyData.int)))
section
variable {X : Cx}
theorem pairs_reads {pins : List (Addr × Obj)} {σ : St} {H : Hp} {s : Shared} (I : Inv X pins σ H s) {P : Program} {w : World} (sm : H sysModules = none) : ∀ {m : List (Str × Addr × List Int)} {vs : List (Key × Value)} {es : List DictEntry}, (∀ p ∈ m, H p.2.1 = some (.lst (p.2.2.map V.int))) →
    KV (m.map fun p => (Sum.inr p.1, V.ref p.2.1)) vs → Pairs (mixKind P w) es vs → ReadsAll s.heap (es.map (·.key)) (m.map fun p => .str p.1) [] ∧ ∃ bs, ReadsAll s.heap (es.map (·.val)) (m.map fun p => .list (p.2.2.map PyData.int)) bs ∧ sysModules ∉ bs
  | [], vs, es, _, kv, ps => by
    cases kv
    cases ps
    exact ⟨.nil, [], .nil, by simp⟩
  | p :: m, vs, es, hm, kv, ps => by
    rw [List.map_cons] at kv
    cases kv with
    | cons a b =>
      cases ps with
      | cons c d e =>
        obtain ⟨e1, e2⟩ := a
        obtain ⟨h1, bs, h2, h3⟩ := pairs_reads I sm (fun q mq => hm q (List.mem_cons_of_mem _ mq)) b e
        have hp := hm p (List.mem_cons_self ..)
        obtain ⟨its, rv, ⟨o, n, ho, hc, _, hd⟩, _⟩ := I.list (SqL.of hp)
        have ne : p.2.1 ≠ sysModules := fun z => by rw [z, sm] at hp; cases hp
        rw [← e1] at c
        have e2 : _ = Value.ref p.2.1 := e2
        rw [e2] at d
        have c : keyIs (Sum.inr p.1) _ = true := c
        rcases keyIs_shape c with ⟨i, t, z, _⟩ | ⟨x, t, z, ek⟩
        · cases z
        · have ex : p.1 = x := Sum.inr.inj z
          refine ⟨?_, [p.2.1] ++ bs, ?_, ?_⟩
          · rw [List.map_cons, List.map_cons, ek, ← ex]
            exact .cons (Reads.str _ t) h1
          · rw [List.map_cons, List.map_cons, d]
            exact .cons (Reads.list ho hc hd (reads_ints rv)) h2
          · intro mm
            rcases List.mem_append.mp mm with mm | mm
            · exact ne (List.mem_singleton.mp mm).symm
            · exact h3 mm
def rReprN (K : PySem.W.Frag) : List V → Hp → VK → Prop := fun vs H Q => ∃ (a : Addr) (m : List (Str × Addr × List Int)), vs = [V.ref a] ∧ H a = some (.dK (m.map fun p => (Sum.inr p.1, V.ref p.2.1))) ∧ (∀ p ∈ m, H p.2.1 = some (.lst (p.2.2.map V.int))) ∧
  (nmD m).showable = true ∧ (nmD m).depth ≤ 64 ∧ (nmD m).shown.length ≤ sizeLine ∧ Q (.str (nmD m).shown) H
theorem cr_reprN (gS : ∃ o, X.base.get? sysModules = some o) (gA : X.A.guards = some []) (un : X.A.units + 70 < cLine) : CallR X (.builtin "repr") (rReprN X.K) := by
  intro pins s σ H xs us Q I r h
  obtain ⟨a, m, rfl, ha, hm, sh, dep, len, q⟩ := h
  rw [Vals.ref1 r]
  obtain ⟨o0, k1⟩ := gS
  have sm2 : H sysModules = none := (I.bs _ _ k1).2
  obtain ⟨_, na, vs, kv, o, es, ep, ho, ed, hd, _, ps, _⟩ := dk_of I.hok ha
  obtain ⟨h1, bs, h2, h3⟩ := pairs_reads I sm2 hm kv ps
  have rd : Reads s.heap (.ref a) (nmD m) (a :: [] ++ bs) := by
    refine Reads.dict ho ed.1 hd ?_ ?_
    · rw [List.map_map]; exact h1
    · rw [List.map_map]; exact h2
  refine repr_of_reads' rd sh (fun _ mm => ?_) gA (by omega) (fun _ _ e => e) (fun h' u tk hk => ⟨.str (nmD m).shown, H, I.kept hk, ⟨_, rfl⟩, q⟩) len
  rcases List.mem_append.mp mm with mm | mm
  · rw [List.mem_singleton.mp mm] at na
    exact absurd na (by simp)
  · exact h3 mm
end
end L2

set_option Elab.async false
set_option linter.all false
set_option maxRecDepth 100000
set_option maxHeartbeats 2000000
/-! a law whose own body shows data by repr: its promise knows that nothing is being shown around it -/
namespace L2
open PySem PySem.Spec PyProof.Rows
/-- as FnOk, where no object is under way in a repr -/
structure FnH (P : Program) (w : World) (K : PySem.W.Frag) (mg : Str → Option Value) (base : Heap) (k : Nat) (f : Addr) (fd : FuncData) (ps : List Str) (sp : Sp) : Prop where
  len : ∀ vs H Q E, sp vs H Q E → vs.length = ps.length
  run : ∀ (A : Around), A.guards = some [] → (∃ o, base.get? sysModules = some o) → Room k A → ∀ (outer : List Env) (s : Shared) (H : Hp), Env0 P w K mg base A outer s H →
    ∀ (args : Args) (us : List Value) (vs : List V) (Q : VK) (E : XK), BindsTo s fd args (ps.zip us) → Vals vs us → sp vs H Q E → codeAny (model P w) A (.call (.ref f) args) (CR CX0 outer P w H s Q E) s
section
variable {P : Program} {w : World} {K : PySem.W.Frag} {mg : Str → Option Value} {base : Heap}
theorem Fun.okH {x qual : Str} {st : Stmt} {f : Addr} {fd : FuncData} {N ps : List Str} {k : Nat} {sp : Sp} (F : Fun K x qual st f fd) (S : FnScope N ps (defScope st)) (len : ∀ vs H Q E, sp vs H Q E → vs.length = ps.length)
    (body : ∀ (cdv : Value) (A : Around) (outer : List Env) (s : Shared) (H : Hp) (vs : List V) (Q : VK) (E : XK), A.guards = some [] → (∃ o, base.get? sysModules = some o) → Room k (A.deeper (envOfC qual (defScope st) s.heap.objs.size f cdv)) → sp vs H Q E →
      ∃ t, PSs (cxOf CX0 P w K mg base N qual (defScope st) f cdv A outer s H E).nox (defBody st) t ∧ t { nx := fun _ H' => Q .non H', rt := Q } (start N vs) H) : FnH P w K mg base (k + 1) f fd ps sp := by
  obtain ⟨oc, od, kV, doc, pm, an, cdv, ct, osl, rfl, lk, code⟩ := F.ex
  constructor
  · exact len
  intro A gA gS room outer s H env args us vs Q E bind rel want
  have nvs := len vs H Q E want
  have inK : K.In s.heap := env.mod.kin.keeps fun b o e => (env.bs b o e).1
  have nolim : s.heap.NoLimit := env.mod.nolimit.keeps fun b o e => (env.bs b o e).1
  obtain ⟨t, pt, rt⟩ := body cdv A outer s H vs Q E gA gS (room.deeper _) want
  apply codeAny_call_function room.depth (inK _ _ lk) rfl S.co S.gen rfl (PySem.W.codeRec_of inK code)
  apply bind
  refine wpAny_newFunctionEnv_cells S.kind (fun y my => ?_) fun e' he' s1 inc => ?_
  · obtain ⟨n, v⟩ := y
    cases S.par n (List.of_mem_zip my).1 with
    | inl h => exact .inl h
    | inr h => exact .inr ⟨h, PySem.W.cellsFrom_some _ _ _ (.inl h)⟩
  cases he'
  refine ⟨nolim.keeps inc.toInCall.keep, codeAny_func ?_⟩
  have I0 : Inv (cxOf CX0 P w K mg base N qual (defScope st) f cdv A outer s H E) [] (start N vs) H s1 := inv_start S room.hd env nvs rel inc
  refine wpAny_mono (pt.nox.run [] s1 (start N vs) H _ I0 rt) ?_ fun _ _ h => h
  intro fl s' h
  cases fl with
  | ret u =>
    obtain ⟨v, _, H', J, r, q⟩ := h
    exact ⟨v, H', J.os, J.bare, J.base, J.hok, r, q⟩
  | next =>
    obtain ⟨_, H', J, q⟩ := h
    exact ⟨V.non, H', J.os, J.bare, J.base, J.hok, rfl, q⟩
  | brk => obtain ⟨_, _, _, q⟩ := h; exact q.elim
  | cont => obtain ⟨_, _, _, q⟩ := h; exact q.elim
end
/-- the law's row from such a promise -/
theorem walk_h {l : PySem.W.OpenLaw} {n k : Nat} {q : Program} {loose : List Str} {XP : (Str → Option Value) → Heap → Prop} {YP : World → Heap → Prop} {d : DefRec} {K : Params → PySem.W.Frag} {sp : World → Sp} {x : Str}
    (impN : importsNone q = true) (most : l.most = some n) (small : n ≤ sizeLine) (nodf : d.params.defaults = []) (room : Room k callerA) (part : ∀ (w : World) (h : Heap), YP w h → (K w.params).In h)
    (F : ∀ (w : World) (mg : Str → Option Value) (fa : Addr) (h : Heap), (K w.params).In h → h.Ns mainGlobals mg → mg d.name = some (.ref fa) →
      ∃ fd : FuncData, (∀ (s : Shared) (u : Value), BindsTo s fd ⟨[u], []⟩ [(x, u)]) ∧ ∀ base : Heap, FnH l.prog w (K w.params) mg base k fa fd [x] (sp w))
    (holds : ∀ (w : World) (H : Hp) (a : Addr) (ns : List Int), ns.length ≤ n → SqL (K w.params) H a (ns.map V.int) → sp w [.ref a] H (fun v _ => v = .bl true) fun _ _ _ => False) :
    PySem.W.WalkO q loose XP YP l.row.toRowW d [] (fun f vs => PySem.call f vs) := by
  apply Att.attach_call most nodf
  intro w s0 s mg mb fa o pm cd doc a vs ns G Y _ _ _ isLaw obj hin len gens
  have inK := part w _ Y
  obtain ⟨fd, bind, ok⟩ := F w mg fa _ inK G.T.g isLaw
  -- the heap as told: the script alone, unless it is the module's own
  let H : Hp := fun b => if b = a ∧ (K w.params).lookup a = none then some (.frz { cls := .type "list", data := .seq vs.toArray } (.lst (ns.map V.int))) else none
  have hAt : ∀ {b u}, H b = some u → b = a ∧ (K w.params).lookup a = none ∧ u = .frz { cls := .type "list", data := .seq vs.toArray } (.lst (ns.map V.int)) := by
    intro b u e
    by_cases z : b = a ∧ (K w.params).lookup a = none
    · rw [show H b = _ from if_pos z] at e
      exact ⟨z.1, z.2, (Option.some.inj e).symm⟩
    · rw [show H b = _ from if_neg z] at e; cases e
  have rv := vals_ints hin
  have lz : ns.length ≤ sizeLine := Nat.le_trans len small
  have seq : SqL (K w.params) H a (ns.map V.int) := by
    cases z : (K w.params).lookup a with
    | none => exact .inl (.inr ⟨_, if_pos ⟨rfl, z⟩⟩)
    | some o' =>
      have e := inK a o' z
      rw [obj] at e
      cases e
      exact .inr ⟨_, vs.toArray, _, z, rfl, rfl, rfl, by rw [List.size_toArray, hin.length]; exact lz, by simpa using rv⟩
  have hok : HOk l.prog w H s.heap := by
    intro b u e
    obtain ⟨rfl, _, rfl⟩ := hAt e
    exact ⟨obj, by rw [List.length_map]; exact lz, vs, _, rv, obj⟩
  have off : ∀ {b o}, s.heap.get? b = some o → (∀ us m, o.data ≠ .seq us m) → H b = none := by
    intro b o e no
    cases z : H b with
    | none => rfl
    | some u =>
      obtain ⟨rfl, _, _⟩ := hAt z
      rw [obj] at e; cases e
      exact (no _ _ rfl).elim
  have low : ∀ {b m}, s.heap.Ns b m → (hidT s.heap H).Ns b m := by
    rintro b m ⟨o, es, ep, e, dt, r⟩
    exact ⟨o, es, ep, hidT_get e (off e (by rw [dt]; exact fun _ _ z => by cases z)), dt, r⟩
  have inB : (K w.params).In (hidT s.heap H) := by
    intro b o e
    apply hidT_get (inK b o e)
    cases z : H b with
    | none => rfl
    | some u =>
      obtain ⟨rfl, none', _⟩ := hAt z
      rw [none'] at e; cases e
  obtain ⟨mc, g1, g2⟩ := G.T.nolimit
  have sysM : ∃ o, (hidT s.heap H).get? sysModules = some o := by
    obtain ⟨mm, hm, _⟩ := (G.T.seer impN).mods
    obtain ⟨o, _, _, ho, _⟩ := low hm
    exact ⟨o, ho⟩
  have start : Env0 l.prog w (K w.params) mg (hidT s.heap H) callerA [] s H := {
    frames := rfl
    mod := ⟨inB, low G.T.g, ⟨mb, low G.T.b, G.T.builtins⟩, mc, low g1, g2⟩
    bs := fun _ _ e => of_hidT e
    bsz := Nat.le_of_eq (hidT_size _ _)
    funs := trivial
    frf := fun b m => nomatch (show b ∈ ([] : List Addr) from m)
    hok := hok
    bare := .of_eq gens }
  have run := (ok (hidT s.heap H)).run callerA rfl sysM room [] s H start ⟨[.ref a], []⟩ [.ref a] [.ref a] _ _ (bind s (.ref a)) (.cons rfl .nil) (holds w H a ns len seq)
  refine codeAny_mono run ?_
  intro r s' h
  match r, h with
  | .error _, h => exact h.elim
  | .ok .next, h => exact h.elim
  | .ok .brk, h => exact h.elim
  | .ok .cont, h => exact h.elim
  | .ok (.ret u), h =>
    obtain ⟨v, H', os, bare, un, hok', rel, isT⟩ := h
    have e1 : v = .bl true := isT
    subst e1
    have e2 : u = Value.bool true := rel
    subst e2
    refine ⟨rfl, OldK.of_keep fun b o e => ?_, os, bare⟩
    cases z : H b with
    | none => exact un.keep b o e z (fun m => nomatch (show b ∈ ([] : List Addr) from m)) (fun m => nomatch m)
    | some t =>
      obtain ⟨rfl, _, rfl⟩ := hAt z
      have two := hok' b _ (un.frzs b _ _ z)
      rw [obj] at e; cases e
      exact two.1
end L2

set_option Elab.async false
set_option linter.all false
set_option maxRecDepth 100000
set_option maxHeartbeats 1000000


--@@rec _law_expr _law_value
--@@guardsys
namespace Mine
open PySem PySem.Spec PyProof.Rows L2
def topS (i : Nat) : Stmt := PySem.Challenge.pw_deadbeat_k11_values_of_expressions.main.body.getD i (.Pass ⟨0, 0, 0, 0⟩)
abbrev s_wrap : Stmt := topS 4
theorem sc_wrap : FnScope ["n"] ["n"] (defScope s_wrap) := ⟨rfl, rfl, rfl, by decide +kernel, rfl, by decide +kernel, by decide +kernel⟩
abbrev s_signed : Stmt := topS 5
theorem sc_signed : FnScope ["w"] ["w"] (defScope s_signed) := ⟨rfl, rfl, rfl, by decide +kernel, rfl, by decide +kernel, by decide +kernel⟩
abbrev s__holds : Stmt := topS 7
theorem sc__holds : FnScope ["operator", "a", "b"] ["operator", "a", "b"] (defScope s__holds) := ⟨rfl, rfl, rfl, by decide +kernel, rfl, by decide +kernel, by decide +kernel⟩
abbrev s_combine : Stmt := topS 6
theorem sc_combine : FnScope ["operator", "a", "b"] ["operator", "a", "b"] (defScope s_combine) := ⟨rfl, rfl, rfl, by decide +kernel, rfl, by decide +kernel, by decide +kernel⟩
abbrev s_alter : Stmt := topS 8
theorem sc_alter : FnScope ["operator", "a"] ["operator", "a"] (defScope s_alter) := ⟨rfl, rfl, rfl, by decide +kernel, rfl, by decide +kernel, by decide +kernel⟩
abbrev s__operands : Stmt := topS 11
theorem sc__operands : FnScope ["e", "kind"] ["e"] (defScope s__operands) := ⟨rfl, rfl, rfl, by decide +kernel, rfl, by decide +kernel, by decide +kernel⟩
abbrev s_parts : Stmt := topS 10
theorem sc_parts : FnScope ["e", "found", "waiting", "part"] ["e"] (defScope s_parts) := ⟨rfl, rfl, rfl, by decide +kernel, rfl, by decide +kernel, by decide +kernel⟩
abbrev s_evaluate : Stmt := topS 13
theorem sc_evaluate : FnScope ["e", "names", "values", "part", "kind", "words", "right"] ["e", "names"] (defScope s_evaluate) := ⟨rfl, rfl, rfl, by decide +kernel, rfl, by decide +kernel, by decide +kernel⟩
abbrev s__law_state : Stmt := topS 15
theorem sc__law_state : FnScope ["script", "seed", "cell"] ["script"] (defScope s__law_state) := ⟨rfl, rfl, rfl, by decide +kernel, rfl, by decide +kernel, by decide +kernel⟩
abbrev s__law_draw : Stmt := topS 16
theorem sc__law_draw : FnScope ["state", "many", "cells", "value", "mixed"] ["state", "many"] (defScope s__law_draw) := ⟨rfl, rfl, rfl, by decide +kernel, rfl, by decide +kernel, by decide +kernel⟩
abbrev s__law_pick : Stmt := topS 17
theorem sc__law_pick : FnScope ["state", "row"] ["state", "row"] (defScope s__law_pick) := ⟨rfl, rfl, rfl, by decide +kernel, rfl, by decide +kernel, by decide +kernel⟩
abbrev s__law_word : Stmt := topS 18
theorem sc__law_word : FnScope ["state", "edges"] ["state"] (defScope s__law_word) := ⟨rfl, rfl, rfl, by decide +kernel, rfl, by decide +kernel, by decide +kernel⟩
abbrev s__law_expr : Stmt := topS 19
theorem sc__law_expr : FnScope ["state", "env", "deep", "signs", "kind", "rows", "name", "size", "first"] ["state", "env", "deep"] (defScope s__law_expr) := ⟨rfl, rfl, rfl, by decide +kernel, rfl, by decide +kernel, by decide +kernel⟩
abbrev s__law_two : Stmt := topS 25
theorem sc__law_two : FnScope ["sign", "a", "b", "left", "right", "rows"] ["sign", "a", "b"] (defScope s__law_two) := ⟨rfl, rfl, rfl, by decide +kernel, rfl, by decide +kernel, by decide +kernel⟩
abbrev s__law_value : Stmt := topS 26
theorem sc__law_value : FnScope ["e", "names", "row", "left"] ["e", "names"] (defScope s__law_value) := ⟨rfl, rfl, rfl, by decide +kernel, rfl, by decide +kernel, by decide +kernel⟩
abbrev s_law : Stmt := topS 27
theorem sc_law : FnScope ["script", "state", "cells", "names", "name", "size", "k", "before", "e", "due", "actual"] ["script"] (defScope s_law) := ⟨rfl, rfl, rfl, by decide +kernel, rfl, by decide +kernel, by decide +kernel⟩
structure Top (K : PySem.W.Frag) (mg : Str → Option Value) where
  a_wrap : Addr
  d_wrap : FuncData
  F_wrap : Fun K "wrap" "wrap" s_wrap a_wrap d_wrap
  g_wrap : mg "wrap" = some (.ref a_wrap)
  b_wrap : Binds K d_wrap ["n"] []
  a_signed : Addr
  d_signed : FuncData
  F_signed : Fun K "signed" "signed" s_signed a_signed d_signed
  g_signed : mg "signed" = some (.ref a_signed)
  b_signed : Binds K d_signed ["w"] []
  a__holds : Addr
  d__holds : FuncData
  F__holds : Fun K "_holds" "_holds" s__holds a__holds d__holds
  g__holds : mg "_holds" = some (.ref a__holds)
  b__holds : Binds K d__holds ["operator", "a", "b"] []
  a_combine : Addr
  d_combine : FuncData
  F_combine : Fun K "combine" "combine" s_combine a_combine d_combine
  g_combine : mg "combine" = some (.ref a_combine)
  b_combine : Binds K d_combine ["operator", "a", "b"] []
  a_alter : Addr
  d_alter : FuncData
  F_alter : Fun K "alter" "alter" s_alter a_alter d_alter
  g_alter : mg "alter" = some (.ref a_alter)
  b_alter : Binds K d_alter ["operator", "a"] []
  a__operands : Addr
  d__operands : FuncData
  F__operands : Fun K "_operands" "_operands" s__operands a__operands d__operands
  g__operands : mg "_operands" = some (.ref a__operands)
  b__operands : Binds K d__operands ["e"] []
  a_parts : Addr
  d_parts : FuncData
  F_parts : Fun K "parts" "parts" s_parts a_parts d_parts
  g_parts : mg "parts" = some (.ref a_parts)
  b_parts : Binds K d_parts ["e"] []
  a_evaluate : Addr
  d_evaluate : FuncData
  F_evaluate : Fun K "evaluate" "evaluate" s_evaluate a_evaluate d_evaluate
  g_evaluate : mg "evaluate" = some (.ref a_evaluate)
  b_evaluate : Binds K d_evaluate ["e", "names"] []
  a__law_state : Addr
  d__law_state : FuncData
  F__law_state : Fun K "_law_state" "_law_state" s__law_state a__law_state d__law_state
  g__law_state : mg "_law_state" = some (.ref a__law_state)
  b__law_state : Binds K d__law_state ["script"] []
  a__law_draw : Addr
  d__law_draw : FuncData
  F__law_draw : Fun K "_law_draw" "_law_draw" s__law_draw a__law_draw d__law_draw
  g__law_draw : mg "_law_draw" = some (.ref a__law_draw)
  b__law_draw : Binds K d__law_draw ["state", "many"] []
  a__law_pick : Addr
  d__law_pick : FuncData
  F__law_pick : Fun K "_law_pick" "_law_pick" s__law_pick a__law_pick d__law_pick
  g__law_pick : mg "_law_pick" = some (.ref a__law_pick)
  b__law_pick : Binds K d__law_pick ["state", "row"] []
  a__law_word : Addr
  d__law_word : FuncData
  F__law_word : Fun K "_law_word" "_law_word" s__law_word a__law_word d__law_word
  g__law_word : mg "_law_word" = some (.ref a__law_word)
  b__law_word : Binds K d__law_word ["state"] []
  a__law_expr : Addr
  d__law_expr : FuncData
  F__law_expr : Fun K "_law_expr" "_law_expr" s__law_expr a__law_expr d__law_expr
  g__law_expr : mg "_law_expr" = some (.ref a__law_expr)
  b__law_expr : Binds K d__law_expr ["state", "env", "deep"] []
  a__law_two : Addr
  d__law_two : FuncData
  F__law_two : Fun K "_law_two" "_law_two" s__law_two a__law_two d__law_two
  g__law_two : mg "_law_two" = some (.ref a__law_two)
  b__law_two : Binds K d__law_two ["sign", "a", "b"] []
  a__law_value : Addr
  d__law_value : FuncData
  F__law_value : Fun K "_law_value" "_law_value" s__law_value a__law_value d__law_value
  g__law_value : mg "_law_value" = some (.ref a__law_value)
  b__law_value : Binds K d__law_value ["e", "names"] []
  a_law : Addr
  d_law : FuncData
  F_law : Fun K "law" "law" s_law a_law d_law
  g_law : mg "law" = some (.ref a_law)
  b_law : Binds K d_law ["script"] []
  m_list : mg "list" = none
  m_len : mg "len" = none
  m_int : mg "int" = none
  m_abs : mg "abs" = none
  m_repr : mg "repr" = none
  m_range : mg "range" = none
  m_bool : mg "bool" = none
  m_isinstance : mg "isinstance" = none
  m_max : mg "max" = none
  t_WORDS : Tok
  c_WORDS : mg "WORDS" = some (.int 4294967296 t_WORDS)
  t_SIGN_BIT : Tok
  c_SIGN_BIT : mg "SIGN_BIT" = some (.int 2147483648 t_SIGN_BIT)
  t_GREATEST_WORD : Tok
  c_GREATEST_WORD : mg "GREATEST_WORD" = some (.int 4294967295 t_GREATEST_WORD)
/-- the state of the law's draws: the list at p, the cells' list at c -/
def StOk (H : Hp) (p c : Addr) : Prop := ∃ (ms : List Int) (sd : Int), p ≠ c ∧ H p = some (.lst [.ref c, .int sd]) ∧ H c = some (.lst (ms.map V.int)) ∧ ms.length ≤ 63 ∧ (∀ m ∈ ms, 0 ≤ m) ∧ 0 ≤ sd ∧ sd ≤ 2147483647
/-- all but the state is as it was -/
def Keep (p c : Addr) (H H' : Hp) : Prop := ∀ b o, b ≠ p → b ≠ c → H b = some o → H' b = some o
theorem Keep.refl (p c : Addr) (H : Hp) : Keep p c H H := fun _ _ _ _ h => h
theorem Keep.trans {p c : Addr} {H H1 H2 : Hp} (a : Keep p c H H1) (b : Keep p c H1 H2) : Keep p c H H2 := fun x o h1 h2 h => b x o h1 h2 (a x o h1 h2 h)
theorem Keep.same {p c : Addr} {H H1 : Hp} (a : Same H H1) : Keep p c H H1 := fun x o _ _ h => a x o h
theorem Keep.atp {p c : Addr} {H : Hp} {o : HO} : Keep p c H (upd H p o) := fun x u h1 _ h => by
  rw [upd_ne h1]
  exact h
theorem Keep.atc {p c : Addr} {H : Hp} {o : HO} : Keep p c H (upd H c o) := fun x u _ h2 h => by
  rw [upd_ne h2]
  exact h
theorem StOk.same {H H' : Hp} {p c : Addr} (s : StOk H p c) (e : Same H H') : StOk H' p c := by
  obtain ⟨ms, sd, h1, h2, h3, h⟩ := s
  exact ⟨ms, sd, h1, e _ _ h2, e _ _ h3, h⟩
/-- an address that is free behind was free before -/
theorem Keep.free {p c : Addr} {H H' : Hp} (k : Keep p c H H') (s : StOk H' p c) {l : Addr} (h : H' l = Option.none) : H l = Option.none := by
  obtain ⟨ms, sd, h1, h2, h3, _⟩ := s
  cases e : H l with
  | none => rfl
  | some o =>
    have np : l ≠ p := fun z => by rw [z, h2] at h; cases h
    have nc : l ≠ c := fun z => by rw [z, h3] at h; cases h
    rw [k l o np nc e] at h
    cases h
theorem StOk.ne {H : Hp} {p c l : Addr} (s : StOk H p c) (h : H l = Option.none) : l ≠ p ∧ l ≠ c := by
  obtain ⟨ms, sd, h1, h2, h3, _⟩ := s
  exact ⟨fun z => (by rw [z, h2] at h; cases h), fun z => (by rw [z, h3] at h; cases h)⟩
section
variable {P : Program} {w : World} {K : PySem.W.Frag} {mg : Str → Option Value} {base : Heap}
def sp__law_state (K : PySem.W.Frag) : Sp := fun vs H Q _ => ∃ (a : Addr) (ns : List Int), vs = [.ref a] ∧ SqL K H a (ns.map V.int) ∧ ns.length ≤ 63 ∧ ∀ (H' : Hp) (p c : Addr), Same H H' → H p = none → H c = none → StOk H' p c → Q (.ref p) H'
theorem abs_nn (n : Int) : 0 ≤ (if n < 0 then -n else n) := by
  split <;> omega
def absI (n : Int) : Int := if n < 0 then -n else n
theorem ok__law_state (T : Top K mg) : FnOk P w K mg base CX0 1 T.a__law_state T.d__law_state ["script"]  (sp__law_state K) := by
  refine T.F__law_state.ok sc__law_state (fun vs H Q E h => ?_) (fun cdv A outer s H vs Q E hr h => ?_)
  · obtain ⟨_, _, rfl, _⟩ := h
    rfl
  · obtain ⟨a, ns, rfl, hS, hlen, q⟩ := h
    refine ⟨_, (pss_cons (ps_set (i := 1) sc__law_state.nd rfl (by first | exact Or.inl rfl | exact Or.inr rfl) pe_int)
  (pss_cons (ps_for PassesOwn.never rfl (pi_list (pv 0)) (pg_name (i := 2) sc__law_state.nd rfl (by first | exact Or.inl rfl | exact Or.inr rfl))
  (pss_one (ps_set (i := 1) sc__law_state.nd rfl (by first | exact Or.inl rfl | exact Or.inr rfl) (pe_op op_mod (pe_callTy call_int1 (by rfl) T.m_int (by decide +kernel) (pa_cons (pe_op op_add (pe_op op_mul (pv 1) pe_int) (pv 2)) pa_nil)) pe_int))))
  (pss_one (ps_ret (pe_lst (pa_cons (pe_lc (own := [("cell", 2)]) (g := gName 2) (tt := tYes) rfl sc__law_state.nd (pi_list (pv 0)) (blkOk_by (N := ["script", "seed", "cell"]) (sc := defScope s__law_state) (by decide +kernel)) (fun _ _ _ _ _ => pg_name (i := 2) sc__law_state.nd rfl (Or.inl rfl)) (fun _ _ _ _ _ => pts_nil) (fun _ _ _ _ _ => (pe_callB call_abs (by rfl) T.m_abs (by decide +kernel) (pa_cons (pe_callTy call_int1 (by rfl) T.m_int (by decide +kernel) (pa_cons (pv 2) pa_nil)) pa_nil)))) (pa_cons (pe_op op_add (pv 1) pe_int) pa_nil))))))), ?_⟩
    refine ⟨_, rfl, a, rfl, ⟨_, hS⟩, for_list (xs := ns.map V.int) (fun i σ H' => ∃ sd y2, σ = [some (.ref a), some (.int sd), y2] ∧ H' = H ∧ 0 ≤ sd ∧ sd < 1000003) ⟨7, none, rfl, rfl, by decide, by decide⟩ (fun i σ H' _ ⟨_, _, _, e, _⟩ => by rw [e]; exact hS) ?_ ?_⟩
    · rintro i x σ H' hi ⟨sd, y2, rfl, rfl, h0, h1⟩
      obtain ⟨n, _, rfl⟩ := List.mem_map.mp (List.mem_of_getElem? hi)
      refine ⟨_, rfl, _, _, rfl, rfl, .inl ⟨by omega, by omega⟩, _, rfl, _, _, rfl, rfl, .inl ⟨_, rfl, _, _, rfl, rfl, (by show (0 : Int) < 1000003; decide), ?_⟩⟩
      exact ⟨_, _, rfl, rfl, Int.emod_nonneg _ (by decide), Int.emod_lt_of_pos _ (by decide)⟩
    · rintro σ H' ⟨sd, y2, rfl, rfl, h0, h1⟩
      refine ⟨_, rfl, a, rfl, ⟨_, hS⟩, fun c hc => ?_⟩
      refine lc_list (xs := ns.map V.int) (fun i H'' => H'' = upd H' c (.lst ((ns.take i).map fun n => V.int (absI n)))) rfl (fun i H'' _ e => ?_) ?_ ?_
      · rw [e]
        exact (same_new hc).seq hS
      · rintro i x H'' hi rfl
        obtain ⟨n, hn, rfl⟩ : ∃ n, ns[i]? = some n ∧ V.int n = x := by
          rw [List.getElem?_map] at hi
          cases e : ns[i]? with
          | none => rw [e] at hi; cases hi
          | some n => rw [e] at hi; exact ⟨n, rfl, Option.some.inj hi⟩
        refine ⟨rfl, ?_⟩
        refine ⟨_, rfl, .inl ⟨_, rfl, _, rfl, _, upd_same, ?_, ?_⟩⟩
        · rw [List.length_map, List.length_take]
          exact small1000 (by omega)
        · rw [upd_upd, List.take_add_one, hn, List.map_append]
          rfl
      · rintro H'' rfl
        rw [List.length_map, List.take_length]
        refine ⟨_, rfl, _, _, rfl, rfl, (by show 2 ≤ sizeLine; decide), fun p hp => ?_⟩
        have npc : p ≠ c := fun z => by rw [z, upd_same] at hp; cases hp
        refine q _ p c ((same_new hc).trans (same_new hp)) ((same_new hc).free hp) hc ⟨ns.map absI, sd + 1, npc, upd_same, ?_, ?_, ?_, by omega, by omega⟩
        · rw [upd_ne npc.symm, upd_same, List.map_map]
          rfl
        · rw [List.length_map]
          exact hlen
        · intro m hm
          obtain ⟨n, _, rfl⟩ := List.mem_map.mp hm
          exact abs_nn n
theorem ix0 {n : Nat} (h : 0 < n) : ixN n 0 = some 0 := by
  unfold ixN
  rw [if_pos (by decide), if_pos (by omega)]
  rfl
theorem seq0 {n : Nat} (h : 0 < n) : seqIndex? 0 n = some 0 := by
  unfold seqIndex?
  simp
  omega
def sp__law_draw : Sp := fun vs H Q _ => ∃ (p c : Addr) (many : Int), vs = [.ref p, .int many] ∧ StOk H p c ∧ 0 < many ∧ many ≤ 1099511627775 ∧ ∀ (v : Int) (H' : Hp), 0 ≤ v → v < many → StOk H' p c → Keep p c H H' → Q (.int v) H'
theorem ok__law_draw (T : Top K mg) : FnOk P w K mg base CX0 1 T.a__law_draw T.d__law_draw ["state", "many"]  sp__law_draw := by
  refine T.F__law_draw.ok sc__law_draw (fun vs H Q E h => ?_) (fun cdv A outer s H vs Q E hr h => ?_)
  · obtain ⟨_, _, _, rfl, _⟩ := h
    rfl
  · obtain ⟨p, c, many, rfl, hst, hm0, hm1, q⟩ := h
    obtain ⟨ms, sd, npc, hp, hc, hl, hn, s0, s1⟩ := hst
    refine ⟨_, (pss_cons (ps_set (i := 2) sc__law_draw.nd rfl (by first | exact Or.inl rfl | exact Or.inr rfl) (pe_ix ix_list (pv 0) pe_int (fun _ _ => rfl)))
  (pss_cons (ps_while PassesOwn.never (pw_and (pt_cmpR op_gt (pe_callB call_len_seq (by rfl) T.m_len PySem.boot_len (pa_cons (pv 2) pa_nil)) pe_int (nomark _)) (pw_and1 (pt_cmpR op_eq (pe_ix ix_list (pv 2) pe_int (fun _ _ => rfl)) pe_int (nomark _)))).pt
  (pss_one (ps_expr (pe_bm PySem.F.plainAttrs_list PySem.F.slot_list_pop PySem.F.type_list_pop mt_popAt (pv 2) (pa_cons pe_int pa_nil)))))
  (pss_cons (ps_if (pt_cmpR op_gt (pe_callB call_len_seq (by rfl) T.m_len PySem.boot_len (pa_cons (pv 2) pa_nil)) pe_int (nomark _))
  (pss_cons (ps_set (i := 3) sc__law_draw.nd rfl (by first | exact Or.inl rfl | exact Or.inr rfl) (pe_ix ix_list (pv 2) pe_int (fun _ _ => rfl)))
  (pss_cons (ps_asg (pe_op op_fdivW (pv 3) (pv 1)) (pg_sub (pv 2) pe_int set_list))
  (pss_one (ps_ret (pe_op op_mod (pe_callTy call_int1 (by rfl) T.m_int (by decide +kernel) (pa_cons (pv 3) pa_nil)) (pv 1))))))
  pss_nil)
  (pss_cons (ps_set (i := 4) sc__law_draw.nd rfl (by first | exact Or.inl rfl | exact Or.inr rfl) (pe_op op_mod (pe_callTy call_int1 (by rfl) T.m_int (by decide +kernel) (pa_cons (pe_op op_add (pe_op op_mul (pe_ix ix_list (pv 0) pe_int (fun _ _ => rfl)) pe_int) pe_int) pa_nil)) pe_int))
  (pss_cons (ps_asg (pv 4) (pg_sub (pv 0) pe_int set_list))
  (pss_one (ps_ret (pe_op op_mod (pe_callTy call_int1 (by rfl) T.m_int (by decide +kernel) (pa_cons (pe_op op_fdivW (pv 4) pe_int) pa_nil)) (pv 1))))))))), ?_⟩
    have hw : many.natAbs < 2 ^ 40 := by omega
    refine ⟨_, rfl, p, _, 0, .ref c, rfl, rfl, SqL.of hp, atI_nat (j := 0) rfl, ?_⟩
    -- the noughts ahead are dropped
    refine ⟨fun m σ H' => ∃ ms' : List Int, m = ms'.length ∧ σ = [some (.ref p), some (.int many), some (.ref c), none, none] ∧ H' = upd H c (.lst (ms'.map V.int)) ∧ ms'.length ≤ 63 ∧ ∀ x ∈ ms', 0 ≤ x,
      ⟨ms.length, ms, rfl, rfl, (upd_self hc).symm, hl, hn⟩, ?_⟩
    rintro m σ H' ⟨ms', rfl, rfl, rfl, hl', hn'⟩
    have hc' : (upd H c (.lst (ms'.map V.int))) c = some (.lst (ms'.map V.int)) := upd_same
    have hp' : (upd H c (.lst (ms'.map V.int))) p = some (.lst [.ref c, .int sd]) := by rw [upd_ne npc]; exact hp
    refine ⟨_, rfl, c, _, rfl, .inl (SqL.of hc'), _, _, rfl, rfl, _, rfl, ?_⟩
    have fin : ∀ (x : Int) (ms2 : List Int) (H2 : Hp), 0 ≤ x → ms2.length ≤ 63 → (∀ y ∈ ms2, 0 ≤ y) → H2 = upd H c (.lst (ms2.map V.int)) → Q (.int (x % many)) H2 := fun x ms2 H2 hx hl2 hn2 e => by
      rw [e]
      exact q _ _ (Int.emod_nonneg _ (by omega)) (Int.emod_lt_of_pos _ hm0) ⟨ms2, sd, npc, by rw [upd_ne npc]; exact hp, upd_same, hl2, hn2, s0, s1⟩ Keep.atc
    cases ms' with
    | nil =>
      refine iteF (iteF ?_)
      refine ⟨_, rfl, c, _, rfl, .inl (SqL.of hc'), _, _, rfl, rfl, _, rfl, iteF ?_⟩
      refine ⟨_, rfl, p, _, 1, .int sd, rfl, rfl, SqL.of hp', atI_nat (j := 1) rfl, _, _, rfl, rfl, .inl ⟨by omega, by omega⟩, _, _, rfl, rfl, .inl ⟨_, rfl, _, _, rfl, rfl, (by show (0 : Int) < 2147483647; decide), ?_⟩⟩
      refine ⟨_, rfl, _, rfl, p, _, 1, 1, rfl, rfl, hp', rfl, ?_⟩
      refine ⟨_, rfl, _, _, rfl, rfl, wide_div (b := 40) (by decide) (by decide) (by decide) (by decide), .inl ⟨_, rfl, _, rfl, _, _, rfl, rfl, hm0, ?_⟩⟩
      have m0 := Int.emod_nonneg (sd * 48271 + 12345) (show (2147483647 : Int) ≠ 0 by decide)
      have m1 := Int.emod_lt_of_pos (sd * 48271 + 12345) (show (0 : Int) < 2147483647 by decide)
      refine q _ _ (Int.emod_nonneg _ (by omega)) (Int.emod_lt_of_pos _ hm0) ⟨[], (sd * 48271 + 12345) % 2147483647, npc, upd_same, ?_, by decide, by simp, m0, by omega⟩ (Keep.atc.trans Keep.atp)
      rw [upd_ne npc.symm]
      exact upd_same
    | cons y r =>
      have hlen : (0 : Int) < ((y :: r).map V.int).length := by rw [List.length_map, List.length_cons]; omega
      rw [decide_eq_true hlen]
      refine iteT ⟨_, rfl, c, _, 0, .int y, rfl, rfl, SqL.of hc', atI_nat (j := 0) rfl, rfl, _, rfl, ite2 (fun cc => ?_) (fun cc => ?_)⟩
      · -- a nought is dropped
        refine ⟨_, fun _ _ z => z, ?_⟩
        refine ⟨_, rfl, .inl ⟨rfl, _, SqL.of hc'⟩, c, _, 0, 0, .int y, rfl, rfl, hc', by decide, by decide, seq0 (by simp), rfl, ?_⟩
        refine ⟨r.length, by simp, r, rfl, rfl, by rw [upd_upd]; rfl, by simp at hl'; omega, fun x hx => hn' x (List.mem_cons_of_mem _ hx)⟩
      · -- the first cell is drawn from
        have y0 := hn' y List.mem_cons_self
        refine ⟨_, rfl, c, _, rfl, .inl (SqL.of hc'), _, _, rfl, rfl, _, rfl, ?_⟩
        rw [decide_eq_true hlen]
        refine iteT ⟨_, rfl, c, _, 0, .int y, rfl, rfl, SqL.of hc', atI_nat (j := 0) rfl, ?_⟩
        refine ⟨_, rfl, _, rfl, _, _, rfl, rfl, wide_div hm0 hw (by decide) (by decide), ?_⟩
        refine ⟨_, rfl, c, _, 0, 0, rfl, rfl, hc', ix0 (by simp), ?_⟩
        refine ⟨_, rfl, .inl ⟨_, rfl, _, rfl, _, _, rfl, rfl, hm0, ?_⟩⟩
        refine fin y (y / many :: r) _ y0 (by simpa using hl') (fun x hx => ?_) (by rw [upd_upd]; rfl)
        rcases List.mem_cons.mp hx with rfl | hx
        · exact Int.ediv_nonneg y0 (by omega)
        · exact hn' x (List.mem_cons_of_mem _ hx)
end

theorem at_any {xs : List V} {v : Int} {n : Nat} (h0 : 0 ≤ v) (h1 : v < n) (hn : n = xs.length) : ∃ (k : Nat) (y : V), v = (k : Int) ∧ xs[k]? = some y ∧ y ∈ xs := by
  have hk : v.toNat < xs.length := by omega
  exact ⟨v.toNat, xs[v.toNat], by omega, List.getElem?_eq_getElem hk, List.getElem_mem hk⟩
theorem rev_at {us : List Int} {k : Nat} (h : k < us.length) : us.reverse[k]? = us[us.length - 1 - k]? := List.getElem?_reverse h
/-! ### what was made since: the heap of the new objects -/
def New (H H' : Hp) : Hp := fun a => match H a with
  | some _ => none
  | none => H' a
theorem New.at {H H' : Hp} {a : Addr} (h : H a = none) : New H H' a = H' a := by
  unfold New
  rw [h]
theorem New.get {H H' : Hp} {a : Addr} {x : HO} (h : New H H' a = some x) : H a = none ∧ H' a = some x := by
  unfold New at h
  cases e : H a with
  | none => rw [e] at h; exact ⟨rfl, h⟩
  | some y => rw [e] at h; cases h
theorem New.of {H H' : Hp} {a : Addr} {x : HO} (h1 : H a = none) (h2 : H' a = some x) : New H H' a = some x := (New.at h1).trans h2
/-- later on -/
theorem New.keep {p c : Addr} {H H1 H2 : Hp} (sp : ∃ x, H p = some x) (sc : ∃ x, H c = some x) (k : Keep p c H1 H2) : Same (New H H1) (New H H2) := fun a x e => by
  obtain ⟨h1, h2⟩ := New.get e
  obtain ⟨_, hp⟩ := sp
  obtain ⟨_, hc⟩ := sc
  exact New.of h1 (k a x (fun z => by rw [z, hp] at h1; cases h1) (fun z => by rw [z, hc] at h1; cases h1) h2)
/-- seen from earlier -/
theorem New.back {H H1 H2 : Hp} (d : ∀ a x, H a = some x → ∃ y, H1 a = some y) : Same (New H1 H2) (New H H2) := fun a x e => by
  obtain ⟨h1, h2⟩ := New.get e
  refine New.of ?_ h2
  cases e : H a with
  | none => rfl
  | some y =>
    obtain ⟨z, hz⟩ := d a y e
    rw [hz] at h1
    cases h1
/-- what stands stays standing, perhaps changed -/
def Dom (H H' : Hp) : Prop := ∀ a x, H a = some x → ∃ y, H' a = some y
theorem Dom.refl (H : Hp) : Dom H H := fun _ x h => ⟨x, h⟩
theorem Dom.trans {H H1 H2 : Hp} (a : Dom H H1) (b : Dom H1 H2) : Dom H H2 := fun x o h => by
  obtain ⟨y, hy⟩ := a x o h
  exact b x y hy
theorem Dom.same {H H1 : Hp} (s : Same H H1) : Dom H H1 := fun a x h => ⟨x, s a x h⟩
theorem Dom.upd {H : Hp} {a : Addr} {o : HO} : Dom H (upd H a o) := fun b x h => by
  by_cases e : b = a
  · subst e
    exact ⟨_, upd_same⟩
  · exact ⟨x, (upd_ne e).trans h⟩
theorem StOk.there {H : Hp} {p c : Addr} (s : StOk H p c) : (∃ x, H p = some x) ∧ ∃ x, H c = some x := by
  obtain ⟨ms, sd, _, h2, h3, _⟩ := s
  exact ⟨⟨_, h2⟩, ⟨_, h3⟩⟩
theorem Keep.dom {p c : Addr} {H H' : Hp} (k : Keep p c H H') (s : StOk H' p c) : Dom H H' := fun a x h => by
  by_cases e1 : a = p
  · subst e1
    exact s.there.1
  · by_cases e2 : a = c
    · subst e2
      exact s.there.2
    · exact ⟨x, k a x e1 e2 h⟩
theorem Keep.free' {p c : Addr} {H H' : Hp} (k : Keep p c H H') (s : StOk H' p c) {l : Addr} (h : H' l = none) : H l = none := Keep.free k s h
/-! ### data stands under more -/
mutual
theorem dp_same {K : PySem.W.Frag} {H H' : Hp} (s : Same H H') : ∀ {v : V} {d : PyData}, Dp K H v d → Dp K H' v d
  | _, _, .non => .non
  | _, _, .bl b => .bl b
  | _, _, .int i => .int i
  | _, _, .str x => .str x
  | _, _, .lst h a => .lst (s.seq h) (dps_same s a)
  | _, _, .tup h a => .tup (Same.seqT s h) (dps_same s a)
theorem dps_same {K : PySem.W.Frag} {H H' : Hp} (s : Same H H') : ∀ {vs : List V} {ds : List PyData}, DpAll K H vs ds → DpAll K H' vs ds
  | _, _, .nil => .nil
  | _, _, .cons a b => .cons (dp_same s a) (dps_same s b)
end
theorem dps_snoc {K : PySem.W.Frag} {H : Hp} : ∀ {vs : List V} {ds : List PyData} {v : V} {d : PyData}, DpAll K H vs ds → Dp K H v d → DpAll K H (vs ++ [v]) (ds ++ [d])
  | _, _, _, _, .nil, h => .cons h .nil
  | _, _, _, _, .cons a b, h => .cons a (dps_snoc b h)
theorem dps_len {K : PySem.W.Frag} {H : Hp} : ∀ {vs : List V} {ds : List PyData}, DpAll K H vs ds → vs.length = ds.length
  | _, _, .nil => rfl
  | _, _, .cons _ b => by rw [List.length_cons, List.length_cons, dps_len b]
/-! ### expressions and statements as data -/
def Word (a : Int) : Prop := 0 ≤ a ∧ a < 4294967296
inductive Ex
  | num (n : Int)
  | cell (s : Str)
  | at (s : Str) (i : Ex)
  | un (k : Str) (a : Ex)
  | bin (k : Str) (a b : Ex)
def Ex.depth : Ex → Nat
  | num _ => 1
  | cell _ => 1
  | «at» _ i => 1 + i.depth
  | un _ a => 1 + a.depth
  | bin _ a b => 1 + max a.depth b.depth
def Ex.d : Ex → PyData
  | num n => .tuple [.str "num", .int n]
  | cell s => .tuple [.str "cell", .str s]
  | «at» s i => .tuple [.str "at", .str s, i.d]
  | un k a => .tuple [.str k, a.d]
  | bin k a b => .tuple [.str k, a.d, b.d]
def UNS : List Str := ["neg", "inv", "not"]
def BINS : List Str := ["+", "-", "*", "/", "mod", "&", "|", "^", "<<", ">>", "<", "<=", "~<", "~<=", "==", "!=", "and", "or"]
structure Env where
  cells : List (Str × Int)
  vars : List Str
  ports : List (Str × Str)
  calls : List (Str × Str × Nat)
  loops : Int
/-- an expression over the names of env -/
def ExW (g : Env) : Ex → Prop
  | .num n => Word n
  | .cell s => (s, 0) ∈ g.cells ∨ s ∈ g.vars
  | .at s i => (∃ z : Int, 0 < z ∧ (s, z) ∈ g.cells) ∧ ExW g i
  | .un k a => k ∈ UNS ∧ ExW g a
  | .bin k a b => k ∈ BINS ∧ ExW g a ∧ ExW g b
inductive Pl
  | cell (s : Str)
  | at (s : Str) (i : Ex)
def Pl.d : Pl → PyData
  | cell s => .tuple [.str "cell", .str s]
  | «at» s i => .tuple [.str "at", .str s, i.d]
def PlW (g : Env) : Pl → Prop
  | .cell s => (s, 0) ∈ g.cells
  | .at s i => (∃ z : Int, 0 < z ∧ (s, z) ∈ g.cells) ∧ ExW g i ∧ i.depth ≤ 2
def optD : Option PyData → PyData
  | none => .none
  | some d => d
inductive Stm
  | set (p : Pl) (e : Ex)
  | ifs (e : Ex) (a b : List Stm)
  | loop (name : Str) (count : Int) (e : Option Ex) (body : List Stm)
  | call (p : Option Pl) (o op : Str) (args : List Ex)
  | read (p : Pl) (port : Str)
  | write (port : Str) (e : Ex)
mutual
def Stm.d : Stm → PyData
  | .set p e => .tuple [.str "set", p.d, e.d]
  | .ifs e a b => .tuple [.str "if", e.d, .list (stmsD a), .list (stmsD b)]
  | .loop n k e b => .tuple [.str "loop", .str n, .int k, optD (e.map Ex.d), .list (stmsD b)]
  | .call p o op as => .tuple [.str "call", optD (p.map Pl.d), .str o, .str op, .list (as.map Ex.d)]
  | .read p t => .tuple [.str "read", p.d, .str t]
  | .write t e => .tuple [.str "write", .str t, e.d]
def stmsD : List Stm → List PyData
  | [] => []
  | s :: r => s.d :: stmsD r
end
def loopName (n : Nat) : Str := ("i" : Str) ++ (Str.ofString (toString (n : Int)))
mutual
/-- a statement that the law may draw at this nesting -/
def StW (g : Env) : Nat → Stm → Prop
  | _, .set p e => PlW g p ∧ ExW g e ∧ e.depth ≤ 3
  | n + 1, .ifs e a b => ExW g e ∧ e.depth ≤ 2 ∧ BodyW g n a ∧ BodyW g n b
  | 0, .ifs _ _ _ => False
  | n + 1, .loop x k e b => x = loopName (n + 1) ∧ 0 < g.loops ∧ 1 ≤ k ∧ k ≤ 4 ∧ (∀ f, e = some f → ExW g f ∧ f.depth ≤ 2) ∧ BodyW { g with vars := g.vars ++ [x], loops := g.loops - 1 } n b
  | 0, .loop _ _ _ _ => False
  | _, .call p o op as => (o, op, as.length) ∈ g.calls ∧ (∀ e ∈ as, ExW g e ∧ e.depth ≤ 2) ∧ ∀ q, p = some q → PlW g q
  | _, .read p t => PlW g p ∧ (("in" : Str), t) ∈ g.ports
  | _, .write t e => (("out" : Str), t) ∈ g.ports ∧ ExW g e ∧ e.depth ≤ 3
def BodyW (g : Env) (n : Nat) (b : List Stm) : Prop := b.length ≤ n + 1 ∧ StmsW g n b
def StmsW (g : Env) : Nat → List Stm → Prop
  | _, [] => True
  | n, s :: r => StW g n s ∧ StmsW g n r
end

def sg (w : Int) : Int := if w < 2147483648 then w else w - 4294967296
def hld (op : Str) (a b : Int) : Bool :=
  if op = "<" then decide (a < b) else if op = "<=" then decide (a ≤ b) else if op = "~<" then decide (sg a < sg b) else if op = "~<=" then decide (sg a ≤ sg b)
  else if op = "==" then decide (a = b) else if op = "!=" then decide (a ≠ b) else if op = "and" then decide (a ≠ 0 ∧ b ≠ 0) else decide (a ≠ 0 ∨ b ≠ 0)
def comb (op : Str) (a b : Int) : Int :=
  if op = "+" then (a + b) % 4294967296 else if op = "-" then (a - b) % 4294967296 else if op = "*" then (a * b) % 4294967296
  else if op = "/" then (if b = 0 then 0 else a / b) else if op = "mod" then (if b = 0 then a else a % b)
  else if op = "&" then Builtin.bitAnd a b else if op = "|" then Builtin.bitOr a b else if op = "^" then Builtin.bitXor a b
  else if op = "<<" then (a * 2 ^ (b % 32).toNat) % 4294967296 else if op = ">>" then a / 2 ^ (b % 32).toNat
  else if hld op a b = true then 1 else 0
def ops : List Str := ["+", "-", "*", "/", "mod", "&", "|", "^", "<<", ">>"]
def cmps : List Str := ["<", "<=", "~<", "~<=", "==", "!=", "and", "or"]
theorem word_small {b : Int} (w : Word b) : b.natAbs < 2 ^ 32 := by
  have := w.1
  have := w.2
  omega
section
variable {P : Program} {w : World} {K : PySem.W.Frag} {mg : Str → Option Value} {base : Heap}
def sp_wrap : Sp := fun vs H Q _ => ∃ n : Int, vs = [.int n] ∧ Q (.int (n % 4294967296)) H
theorem ok_wrap (T : Top K mg) : FnOk P w K mg base CX0 1 T.a_wrap T.d_wrap ["n"]  sp_wrap := by
  refine T.F_wrap.ok sc_wrap (fun vs H Q E h => ?_) (fun cdv A outer s H vs Q E hr h => ?_)
  · obtain ⟨n, rfl, _⟩ := h
    rfl
  · obtain ⟨n, rfl, q⟩ := h
    refine ⟨_, (pss_one (ps_ret (pe_op op_mod (pv 0) (pe_gi (by rfl) T.c_WORDS)))), ?_⟩
    exact ⟨_, rfl, _, _, rfl, rfl, (by show (0 : Int) < 4294967296; decide), q⟩
def sp_signed : Sp := fun vs H Q _ => ∃ n : Int, vs = [.int n] ∧ Q (.int (sg n)) H
theorem ok_signed (T : Top K mg) : FnOk P w K mg base CX0 1 T.a_signed T.d_signed ["w"]  sp_signed := by
  refine T.F_signed.ok sc_signed (fun vs H Q E h => ?_) (fun cdv A outer s H vs Q E hr h => ?_)
  · obtain ⟨n, rfl, _⟩ := h
    rfl
  · obtain ⟨n, rfl, q⟩ := h
    refine ⟨_, (pss_cons (ps_if (pt_cmpR op_lt (pv 0) (pe_gi (by rfl) T.c_SIGN_BIT) (nomark _))
  (pss_one (ps_ret (pv 0)))
  pss_nil)
  (pss_one (ps_ret (pe_op op_sub (pv 0) (pe_gi (by rfl) T.c_WORDS))))), ?_⟩
    refine ⟨_, rfl, _, _, rfl, rfl, _, rfl, ite2 (fun c => ?_) (fun c => ?_)⟩
    · have e : sg n = n := if_pos (of_decide_eq_true c)
      rw [e] at q
      exact ⟨_, rfl, q⟩
    · have e : sg n = n - 4294967296 := if_neg (fun z => c (decide_eq_true z))
      rw [e] at q
      exact ⟨_, rfl, _, _, rfl, rfl, q⟩

def sp__holds : Sp := fun vs H Q _ => ∃ (z : Str) (a b : Int), vs = [.str z, .int a, .int b] ∧ z ∈ cmps ∧ Q (.bl (hld z a b)) H
theorem int_eq {a b : Int} : decide (V.int a = V.int b) = decide (a = b) := by
  by_cases h : a = b
  · rw [h, decide_eq_true rfl, decide_eq_true rfl]
  · rw [decide_eq_false h, decide_eq_false (fun q => h (V.int.inj q))]
theorem ok__holds (T : Top K mg) : FnOk P w K mg base CX0 2 T.a__holds T.d__holds ["operator", "a", "b"]  sp__holds := by
  refine T.F__holds.ok sc__holds (fun vs H Q E h => ?_) (fun cdv A outer s H vs Q E hr h => ?_)
  · obtain ⟨_, _, _, rfl, _⟩ := h
    rfl
  · obtain ⟨z, a, b, rfl, hz, q⟩ := h
    refine ⟨_, (pss_one (ps_match (pv 0)
  (PCs.text (pss_one (ps_ret (pe_cmpR op_lt (pv 1) (pv 2) (nomark _))))
  (PCs.text (pss_one (ps_ret (pe_cmpR op_le (pv 1) (pv 2) (nomark _))))
  (PCs.text (pss_one (ps_ret (pe_cmpR op_lt (pe_call (ok_signed T) (hr.mono (by decide)) (by rfl) T.g_signed T.F_signed.kp T.b_signed .nil pass0 (pa_cons (pv 1) pa_nil)) (pe_call (ok_signed T) (hr.mono (by decide)) (by rfl) T.g_signed T.F_signed.kp T.b_signed .nil pass0 (pa_cons (pv 2) pa_nil)) (nomark _))))
  (PCs.text (pss_one (ps_ret (pe_cmpR op_le (pe_call (ok_signed T) (hr.mono (by decide)) (by rfl) T.g_signed T.F_signed.kp T.b_signed .nil pass0 (pa_cons (pv 1) pa_nil)) (pe_call (ok_signed T) (hr.mono (by decide)) (by rfl) T.g_signed T.F_signed.kp T.b_signed .nil pass0 (pa_cons (pv 2) pa_nil)) (nomark _))))
  (PCs.text (pss_one (ps_ret (pe_cmpR op_eq (pv 1) (pv 2) (nomark _))))
  (PCs.text (pss_one (ps_ret (pe_cmpR op_ne (pv 1) (pv 2) (nomark _))))
  (PCs.text (pss_one (ps_ret (pe_and (pe_cmpR op_ne (pv 1) pe_int (nomark _)) (pe_one (pe_cmpR op_ne (pv 2) pe_int (nomark _))))))
  (PCs.text (pss_one (ps_ret (pe_or (pe_cmpR op_ne (pv 1) pe_int (nomark _)) (pe_one (pe_cmpR op_ne (pv 2) pe_int (nomark _))))))
  PCs.nil)))))))))), ?_⟩
    refine ⟨_, rfl, z, rfl, ?_⟩
    refine ite2 (fun c1 => ?_) (fun c1 => ?_)
    · subst c1
      exact ⟨_, rfl, _, rfl, _, _, rfl, rfl, q⟩
    refine ite2 (fun c2 => ?_) (fun c2 => ?_)
    · subst c2
      exact ⟨_, rfl, _, rfl, _, _, rfl, rfl, q⟩
    refine ite2 (fun c3 => ?_) (fun c3 => ?_)
    · subst c3
      exact ⟨_, rfl, _, rfl, _, rfl, _, rfl, _, _, rfl, rfl, q⟩
    refine ite2 (fun c4 => ?_) (fun c4 => ?_)
    · subst c4
      exact ⟨_, rfl, _, rfl, _, rfl, _, rfl, _, _, rfl, rfl, q⟩
    refine ite2 (fun c5 => ?_) (fun c5 => ?_)
    · subst c5
      refine ⟨_, rfl, _, rfl, rfl, ?_⟩
      rw [int_eq]
      exact q
    refine ite2 (fun c6 => ?_) (fun c6 => ?_)
    · subst c6
      refine ⟨_, rfl, _, rfl, rfl, ?_⟩
      rw [int_eq]
      have e : hld "!=" a b = !decide (a = b) := by
        show decide (a ≠ b) = _
        by_cases h : a = b <;> simp [h]
      rw [e] at q
      exact q
    refine ite2 (fun c7 => ?_) (fun c7 => ?_)
    · subst c7
      refine ⟨_, rfl, rfl, _, rfl, ?_⟩
      have e : hld "and" a b = (!decide (a = 0) && !decide (b = 0)) := by
        show decide (a ≠ 0 ∧ b ≠ 0) = _
        by_cases h : a = 0 <;> by_cases h2 : b = 0 <;> simp [h, h2]
      rw [e] at q
      rw [int_eq]
      by_cases h : a = 0
      · rw [decide_eq_true h] at q ⊢
        exact iteF q
      · rw [decide_eq_false h] at q ⊢
        refine iteT ⟨_, rfl, rfl, ?_⟩
        rw [int_eq]
        exact q
    refine ite2 (fun c8 => ?_) (fun c8 => ?_)
    · subst c8
      refine ⟨_, rfl, rfl, _, rfl, ?_⟩
      have e : hld "or" a b = (!decide (a = 0) || !decide (b = 0)) := by
        show decide (a ≠ 0 ∨ b ≠ 0) = _
        by_cases h : a = 0 <;> by_cases h2 : b = 0 <;> simp [h, h2]
      rw [e] at q
      rw [int_eq]
      by_cases h : a = 0
      · rw [decide_eq_true h] at q ⊢
        refine iteF ⟨_, rfl, rfl, ?_⟩
        rw [int_eq]
        exact q
      · rw [decide_eq_false h] at q ⊢
        exact iteT q
    · simp [cmps, c1, c2, c3, c4, c5, c6, c7, c8] at hz
def sp_combine : Sp := fun vs H Q _ => ∃ (z : Str) (a b : Int), vs = [.str z, .int a, .int b] ∧ Word a ∧ Word b ∧ (z ∈ ops ∨ z ∈ cmps) ∧ Q (.int (comb z a b)) H
theorem ok_combine (T : Top K mg) : FnOk P w K mg base CX0 3 T.a_combine T.d_combine ["operator", "a", "b"]  sp_combine := by
  refine T.F_combine.ok sc_combine (fun vs H Q E h => ?_) (fun cdv A outer s H vs Q E hr h => ?_)
  · obtain ⟨_, _, _, rfl, _⟩ := h
    rfl
  · obtain ⟨z, a, b, rfl, wa, wb, hz, q⟩ := h
    refine ⟨_, (pss_one (ps_match (pv 0)
  (PCs.text (pss_one (ps_ret (pe_call (ok_wrap T) (hr.mono (by decide)) (by rfl) T.g_wrap T.F_wrap.kp T.b_wrap .nil pass0 (pa_cons (pe_op op_add (pv 1) (pv 2)) pa_nil))))
  (PCs.text (pss_one (ps_ret (pe_call (ok_wrap T) (hr.mono (by decide)) (by rfl) T.g_wrap T.F_wrap.kp T.b_wrap .nil pass0 (pa_cons (pe_op op_sub (pv 1) (pv 2)) pa_nil))))
  (PCs.text (pss_one (ps_ret (pe_call (ok_wrap T) (hr.mono (by decide)) (by rfl) T.g_wrap T.F_wrap.kp T.b_wrap .nil pass0 (pa_cons (pe_op op_mul (pv 1) (pv 2)) pa_nil))))
  (PCs.text (pss_one (ps_ret (pe_ifExp (pt_cmpR op_eq (pv 2) pe_int (nomark _)) pe_int (pe_op op_fdivW (pv 1) (pv 2)))))
  (PCs.text (pss_one (ps_ret (pe_ifExp (pt_cmpR op_eq (pv 2) pe_int (nomark _)) (pv 1) (pe_op op_mod (pv 1) (pv 2)))))
  (PCs.text (pss_one (ps_ret (pe_op op_and (pv 1) (pv 2))))
  (PCs.text (pss_one (ps_ret (pe_op op_or (pv 1) (pv 2))))
  (PCs.text (pss_one (ps_ret (pe_op op_xor (pv 1) (pv 2))))
  (PCs.text (pss_one (ps_ret (pe_call (ok_wrap T) (hr.mono (by decide)) (by rfl) T.g_wrap T.F_wrap.kp T.b_wrap .nil pass0 (pa_cons (pe_op op_shl (pv 1) (pe_op op_mod (pv 2) pe_int)) pa_nil))))
  (PCs.text (pss_one (ps_ret (pe_op op_shr (pv 1) (pe_op op_mod (pv 2) pe_int))))
  (PCs.rest (pss_one (ps_ret (pe_ifExp (pt_val (pe_call (ok__holds T) (hr.mono (by decide)) (by rfl) T.g__holds T.F__holds.kp T.b__holds .nil pass0 (pa_cons (pv 0) (pa_cons (pv 1) (pa_cons (pv 2) pa_nil))))) pe_int pe_int)))))))))))))))), ?_⟩
    refine ⟨_, rfl, z, rfl, ?_⟩
    have a0 := wa.1
    have a1 := wa.2
    have b0 := wb.1
    have b1 := wb.2
    refine ite2 (fun c1 => ?_) (fun c1 => ?_)
    · subst c1
      exact ⟨_, rfl, _, rfl, _, _, rfl, rfl, _, rfl, q⟩
    refine ite2 (fun c2 => ?_) (fun c2 => ?_)
    · subst c2
      exact ⟨_, rfl, _, rfl, _, _, rfl, rfl, _, rfl, q⟩
    refine ite2 (fun c3 => ?_) (fun c3 => ?_)
    · subst c3
      exact ⟨_, rfl, _, rfl, _, _, rfl, rfl, .inl ⟨by omega, by omega⟩, _, rfl, q⟩
    refine ite2 (fun c4 => ?_) (fun c4 => ?_)
    · subst c4
      refine ⟨_, rfl, rfl, _, rfl, ite2 (fun c => ?_) (fun c => ?_)⟩
      · have e : b = 0 := V.int.inj (of_decide_eq_true c)
        subst e
        exact q
      · have e : b ≠ 0 := fun z => c (decide_eq_true (by rw [z]))
        have e2 : comb "/" a b = a / b := by
          show (if b = 0 then 0 else a / b) = _
          rw [if_neg e]
        rw [e2] at q
        exact ⟨_, rfl, _, rfl, _, _, rfl, rfl, wide_div (by omega) (word_small wb) (by decide) (by decide), q⟩
    refine ite2 (fun c5 => ?_) (fun c5 => ?_)
    · subst c5
      refine ⟨_, rfl, rfl, _, rfl, ite2 (fun c => ?_) (fun c => ?_)⟩
      · have e : b = 0 := V.int.inj (of_decide_eq_true c)
        subst e
        exact ⟨_, rfl, q⟩
      · have e : b ≠ 0 := fun z => c (decide_eq_true (by rw [z]))
        have e2 : comb "mod" a b = a % b := by
          show (if b = 0 then a else a % b) = _
          rw [if_neg e]
        rw [e2] at q
        exact ⟨_, rfl, _, rfl, _, _, rfl, rfl, (by show 0 < b; omega), q⟩
    refine ite2 (fun c6 => ?_) (fun c6 => ?_)
    · subst c6
      exact ⟨_, rfl, _, rfl, _, _, rfl, rfl, q⟩
    refine ite2 (fun c7 => ?_) (fun c7 => ?_)
    · subst c7
      exact ⟨_, rfl, _, rfl, _, _, rfl, rfl, q⟩
    refine ite2 (fun c8 => ?_) (fun c8 => ?_)
    · subst c8
      exact ⟨_, rfl, _, rfl, _, _, rfl, rfl, q⟩
    have m0 := Int.emod_nonneg b (show (32 : Int) ≠ 0 by decide)
    have m1 := Int.emod_lt_of_pos b (show (0 : Int) < 32 by decide)
    refine ite2 (fun c9 => ?_) (fun c9 => ?_)
    · subst c9
      exact ⟨_, rfl, _, rfl, _, _, rfl, rfl, (by show (0 : Int) < 32; decide), _, _, rfl, rfl, ⟨m0, by omega, by omega⟩, _, rfl, q⟩
    refine ite2 (fun c10 => ?_) (fun c10 => ?_)
    · subst c10
      exact ⟨_, rfl, _, rfl, _, _, rfl, rfl, (by show (0 : Int) < 32; decide), _, _, rfl, rfl, m0, q⟩
    · have hc : z ∈ cmps := by
        rcases hz with h | h
        · simp [ops, c1, c2, c3, c4, c5, c6, c7, c8, c9, c10] at h
        · exact h
      have e : comb z a b = if hld z a b = true then 1 else 0 := by
        simp only [comb, eq_false c1, eq_false c2, eq_false c3, eq_false c4, eq_false c5, eq_false c6, eq_false c7, eq_false c8, eq_false c9, eq_false c10, if_false]
      rw [e] at q
      refine ⟨_, rfl, _, rfl, _, rfl, z, a, b, rfl, hc, hld z a b, rfl, ite2 (fun c => ?_) (fun c => ?_)⟩
      · rw [if_pos c] at q
        exact q
      · rw [if_neg c] at q
        exact q

def alt (op : Str) (a : Int) : Int := if op = "neg" then (-a) % 4294967296 else if op = "inv" then Builtin.bitXor a 4294967295 else if a = 0 then 1 else 0
def sp_alter : Sp := fun vs H Q _ => ∃ (z : Str) (a : Int), vs = [.str z, .int a] ∧ z ∈ (["neg", "inv", "not"] : List Str) ∧ Q (.int (alt z a)) H
theorem ok_alter (T : Top K mg) : FnOk P w K mg base CX0 2 T.a_alter T.d_alter ["operator", "a"]  sp_alter := by
  refine T.F_alter.ok sc_alter (fun vs H Q E h => ?_) (fun cdv A outer s H vs Q E hr h => ?_)
  · obtain ⟨_, _, rfl, _⟩ := h
    rfl
  · obtain ⟨z, a, rfl, hz, q⟩ := h
    refine ⟨_, (pss_one (ps_match (pv 0)
  (PCs.text (pss_one (ps_ret (pe_call (ok_wrap T) (hr.mono (by decide)) (by rfl) T.g_wrap T.F_wrap.kp T.b_wrap .nil pass0 (pa_cons (pe_un un_neg (pv 1)) pa_nil))))
  (PCs.text (pss_one (ps_ret (pe_op op_xor (pv 1) (pe_gi (by rfl) T.c_GREATEST_WORD))))
  (PCs.text (pss_one (ps_ret (pe_ifExp (pt_cmpR op_eq (pv 1) pe_int (nomark _)) pe_int pe_int)))
  PCs.nil))))), ?_⟩
    refine ⟨_, rfl, z, rfl, ?_⟩
    refine ite2 (fun c1 => ?_) (fun c1 => ?_)
    · subst c1
      exact ⟨_, rfl, _, rfl, _, rfl, q⟩
    refine ite2 (fun c2 => ?_) (fun c2 => ?_)
    · subst c2
      exact ⟨_, rfl, _, _, rfl, rfl, q⟩
    refine ite2 (fun c3 => ?_) (fun c3 => ?_)
    · subst c3
      refine ⟨_, rfl, rfl, _, rfl, ?_⟩
      rw [int_eq]
      have e : alt "not" a = if a = 0 then 1 else 0 := rfl
      rw [e] at q
      refine ite2 (fun c => ?_) (fun c => ?_)
      · rw [if_pos (of_decide_eq_true c)] at q
        exact q
      · rw [if_neg (fun z => c (decide_eq_true z))] at q
        exact q
    · simp [c1, c2, c3] at hz
end

/-! ### what the law draws -/
section
variable {P : Program} {w : World} {K : PySem.W.Frag} {mg : Str → Option Value} {base : Heap}
/-- a tuple or list of the heap that the draws leave alone -/
structure Off (H : Hp) (p c a : Addr) : Prop where
  p : a ≠ p
  c : a ≠ c
def sp__law_pick : Sp := fun vs H Q _ => ∃ (p c l : Addr) (xs : List V), vs = [.ref p, .ref l] ∧ StOk H p c ∧ H l = some (.lst xs) ∧ xs ≠ [] ∧ xs.length ≤ 100000 ∧ l ≠ p ∧ l ≠ c ∧ ∀ y ∈ xs, ∀ H', StOk H' p c → Keep p c H H' → Q y H'
theorem ok__law_pick (T : Top K mg) : FnOk P w K mg base CX0 2 T.a__law_pick T.d__law_pick ["state", "row"]  sp__law_pick := by
  refine T.F__law_pick.ok sc__law_pick (fun vs H Q E h => ?_) (fun cdv A outer s H vs Q E hr h => ?_)
  · obtain ⟨_, _, _, _, rfl, _⟩ := h
    rfl
  · obtain ⟨p, c, l, xs, rfl, st, hl, ne, xl, lp, lc, q⟩ := h
    refine ⟨_, (pss_one (ps_ret (pe_ix ix_list (pv 1) (pe_call (ok__law_draw T) (hr.mono (by decide)) (by rfl) T.g__law_draw T.F__law_draw.kp T.b__law_draw .nil pass0 (pa_cons (pv 0) (pa_cons (pe_callB call_len_seq (by rfl) T.m_len PySem.boot_len (pa_cons (pv 1) pa_nil)) pa_nil))) (fun _ _ => rfl)))), ?_⟩
    have x0 : 0 < xs.length := by
      cases xs with
      | nil => exact absurd rfl ne
      | cons _ _ => simp
    refine ⟨_, rfl, _, rfl, _, rfl, l, _, rfl, .inl (SqL.of hl), p, c, _, rfl, st, by omega, by omega, fun v H1 v0 v1 st1 k1 => ?_⟩
    obtain ⟨j, y, ej, hy, my⟩ := at_any (xs := xs) (n := xs.length) v0 v1 rfl
    exact ⟨l, _, _, y, rfl, rfl, SqL.of (k1 _ _ lp lc hl), at_of ej hy, q y my H1 st1 k1⟩
def sp__law_word : Sp := fun vs H Q _ => ∃ (p c : Addr), vs = [.ref p] ∧ StOk H p c ∧ ∀ (n : Int) H', Word n → StOk H' p c → Keep p c H H' → Q (.int n) H'
theorem ok__law_word (T : Top K mg) : FnOk P w K mg base CX0 3 T.a__law_word T.d__law_word ["state"]  sp__law_word := by
  refine T.F__law_word.ok sc__law_word (fun vs H Q E h => ?_) (fun cdv A outer s H vs Q E hr h => ?_)
  · obtain ⟨_, _, rfl, _⟩ := h
    rfl
  · obtain ⟨p, c, rfl, st, q⟩ := h
    refine ⟨_, (pss_cons (ps_set (i := 1) sc__law_word.nd rfl (by first | exact Or.inl rfl | exact Or.inr rfl) (pe_lst (pa_cons pe_int (pa_cons pe_int (pa_cons pe_int (pa_cons pe_int (pa_cons pe_int (pa_cons pe_int (pa_cons pe_int (pa_cons pe_int pa_nil))))))))))
  (pss_cons (ps_if (pt_cmpR op_eq (pe_call (ok__law_draw T) (hr.mono (by decide)) (by rfl) T.g__law_draw T.F__law_draw.kp T.b__law_draw .nil pass0 (pa_cons (pv 0) (pa_cons pe_int pa_nil))) pe_int (nomark _))
  (pss_one (ps_ret (pe_call (ok__law_pick T) (hr.mono (by decide)) (by rfl) T.g__law_pick T.F__law_pick.kp T.b__law_pick .nil pass0 (pa_cons (pv 0) (pa_cons (pv 1) pa_nil)))))
  pss_nil)
  (pss_one (ps_ret (pe_call (ok__law_draw T) (hr.mono (by decide)) (by rfl) T.g__law_draw T.F__law_draw.kp T.b__law_draw .nil pass0 (pa_cons (pv 0) (pa_cons (pe_call (ok__law_pick T) (hr.mono (by decide)) (by rfl) T.g__law_pick T.F__law_pick.kp T.b__law_pick .nil pass0 (pa_cons (pv 0) (pa_cons (pe_lst (pa_cons pe_int (pa_cons pe_int pa_nil))) pa_nil))) pa_nil))))))), ?_⟩
    refine ⟨by show 8 ≤ sizeLine; decide, fun l nl => ?_⟩
    have s1 := same_new (o := .lst [.int 0, .int 1, .int 32768, .int 65535, .int 65536, .int 2147483647, .int 2147483648, .int 4294967295]) nl
    refine ⟨_, rfl, p, c, 3, rfl, st.same s1, by decide, by decide, fun v1 H1 a1 b1 st1 k1 => ?_⟩
    obtain ⟨lp, lc⟩ := st.ne nl
    have k01 := (Keep.same (p := p) (c := c) s1).trans k1
    refine ⟨rfl, _, rfl, ite2 (fun c1 => ?_) (fun c1 => ?_)⟩
    · refine ⟨_, rfl, _, rfl, p, c, l, _, rfl, st1, k1 _ _ lp lc upd_same, by simp, by decide, lp, lc, fun y my H2 st2 k2 => ?_⟩
      obtain ⟨n, rfl, hn⟩ : ∃ n : Int, y = .int n ∧ Word n := by
        simp only [List.mem_cons, List.mem_nil_iff, or_false] at my
        rcases my with rfl | rfl | rfl | rfl | rfl | rfl | rfl | rfl <;> exact ⟨_, rfl, by decide, by decide⟩
      exact q n H2 hn st2 (k01.trans k2)
    · refine ⟨_, rfl, _, rfl, by show 2 ≤ sizeLine; decide, fun l2 nl2 => ?_⟩
      obtain ⟨l2p, l2c⟩ := st1.ne nl2
      have s2 := same_new (o := .lst [.int 7, .int 4294967296]) nl2
      refine ⟨p, c, l2, _, rfl, st1.same s2, upd_same, by simp, by decide, l2p, l2c, fun y my H2 st2 k2 => ?_⟩
      obtain ⟨n, rfl, h1, h2⟩ : ∃ n : Int, y = .int n ∧ 0 < n ∧ n ≤ 4294967296 := by
        simp only [List.mem_cons, List.mem_nil_iff, or_false] at my
        rcases my with rfl | rfl <;> exact ⟨_, rfl, by decide, by decide⟩
      refine ⟨p, c, n, rfl, st2, h1, by omega, fun v3 H3 a3 b3 st3 k3 => ?_⟩
      exact q v3 H3 ⟨a3, by omega⟩ st3 (k01.trans ((Keep.same s2).trans (k2.trans k3)))
end

section
variable {P : Program} {w : World} {K : PySem.W.Frag} {mg : Str → Option Value} {base : Heap}
/-- the names that an expression may use, as they lie in the heap -/
def EnvAt (K : PySem.W.Frag) (N : Hp) (e : Addr) (g : Env) : Prop := ∃ C V' Po Ca : Addr, N e = some (.lst [.ref C, .ref V', .ref Po, .ref Ca, .int g.loops]) ∧
  (∃ ts : List Addr, N C = some (.lst (ts.map V.ref)) ∧ ts.length = g.cells.length ∧ ∀ (i : Nat) (t : Addr) (q : Str × Int), ts[i]? = some t → g.cells[i]? = some q → SqT K N t [.str q.1, .int q.2]) ∧
  N V' = some (.lst (g.vars.map V.str)) ∧
  (∃ ts : List Addr, N Po = some (.lst (ts.map V.ref)) ∧ ts.length = g.ports.length ∧ ∀ (i : Nat) (t : Addr) (q : Str × Str), ts[i]? = some t → g.ports[i]? = some q → SqT K N t [.str q.1, .str q.2]) ∧
  ∃ ts : List Addr, N Ca = some (.lst (ts.map V.ref)) ∧ ts.length = g.calls.length ∧ ∀ (i : Nat) (t : Addr) (q : Str × Str × Nat), ts[i]? = some t → g.calls[i]? = some q → SqT K N t [.str q.1, .str q.2.1, .int q.2.2]
theorem EnvAt.same {N N' : Hp} {e : Addr} {g : Env} (h : EnvAt K N e g) (s : Same N N') : EnvAt K N' e g := by
  obtain ⟨C, V', Po, Ca, h1, ⟨ts, h2, h3, h4⟩, h5, ⟨us, h6, h7, h8⟩, ⟨vs, h9, h10, h11⟩⟩ := h
  exact ⟨C, V', Po, Ca, s _ _ h1, ⟨ts, s _ _ h2, h3, fun i t q a b => Same.seqT s (h4 i t q a b)⟩, s _ _ h5, ⟨us, s _ _ h6, h7, fun i t q a b => Same.seqT s (h8 i t q a b)⟩, ⟨vs, s _ _ h9, h10, fun i t q a b => Same.seqT s (h11 i t q a b)⟩⟩
theorem New.sub {H H' : Hp} : Same (New H H') H' := fun _ _ e => (New.get e).2
/-- where a law's drawing stands: the state at p and c, which the old heaps He (of the names) and H0 (of what is made) have -/
structure Here (He H0 H : Hp) (p c : Addr) : Prop where
  st : StOk H p c
  ep : ∃ x, He p = some x
  ec : ∃ x, He c = some x
  op : ∃ x, H0 p = some x
  oc : ∃ x, H0 c = some x
  dom : Dom H0 H
theorem Here.keep {He H0 H H' : Hp} {p c : Addr} (h : Here He H0 H p c) (k : Keep p c H H') (s : StOk H' p c) : Here He H0 H' p c := ⟨s, h.ep, h.ec, h.op, h.oc, h.dom.trans (k.dom s)⟩
theorem Here.new {He H0 H : Hp} {p c a : Addr} (h : Here He H0 H p c) (n : H a = none) : H0 a = none := by
  cases e : H0 a with
  | none => rfl
  | some x =>
    obtain ⟨y, hy⟩ := h.dom a x e
    rw [n] at hy
    cases hy
def exSize (g : Env) : Prop := g.cells.length ≤ 100 ∧ g.vars.length ≤ 100 ∧ g.ports.length ≤ 100 ∧ g.calls.length ≤ 100
def sp__law_expr (K : PySem.W.Frag) (d : Nat) : Sp := fun vs H Q _ => ∃ (He H0 : Hp) (p c e : Addr) (g : Env) (deep : Int), vs = [.ref p, .ref e, .int deep] ∧ Here He H0 H p c ∧ EnvAt K (New He H) e g ∧ exSize g ∧ deep ≤ d + 1 ∧
  ∀ (v : V) (x : Ex) (H' : Hp), Dp K (New H0 H') v x.d → ExW g x → (x.depth : Int) ≤ max 1 deep → StOk H' p c → Keep p c H H' → Q v H'
/-- a pair of a kind and a name, made anew -/
def CellRow (H0 H : Hp) (g : Env) (y : V) : Prop := ∃ (T : Addr) (s : Str), y = .ref T ∧ H0 T = none ∧ H T = some (.tup [.str "cell", .str s]) ∧ ((s, 0) ∈ g.cells ∨ s ∈ g.vars)
theorem CellRow.same {H0 H H' : Hp} {g : Env} {y : V} (h : CellRow H0 H g y) (k : ∀ a xs, H a = some (.tup xs) → H' a = some (.tup xs)) : CellRow H0 H' g y := by
  obtain ⟨T, s, h1, h2, h3, h4⟩ := h
  exact ⟨T, s, h1, h2, k _ _ h3, h4⟩
theorem CellRow.dp {H0 H : Hp} {g : Env} {y : V} (h : CellRow H0 H g y) : ∃ x : Ex, Dp K (New H0 H) y x.d ∧ ExW g x ∧ x.depth = 1 := by
  obtain ⟨T, s, rfl, h2, h3, h4⟩ := h
  exact ⟨.cell s, .tup (SqT.of (New.of h2 h3)) (.cons (.str _) (.cons (.str _) .nil)), h4, rfl⟩
/-- the rows under way in the list D -/
def RowsInv (H0 H1 : Hp) (g : Env) (D : Addr) (i : Nat) (H' : Hp) : Prop := ∃ xs : List V, H' D = some (.lst xs) ∧ xs.length ≤ i ∧ (∀ y ∈ xs, CellRow H0 H' g y) ∧ Same H1 H'
theorem RowsInv.zero {H0 H1 : Hp} {g : Env} {D : Addr} (n : H1 D = none) : RowsInv H0 H1 g D 0 (upd H1 D (.lst [])) := ⟨[], upd_same, Nat.le_refl _, by simp, same_new n⟩
theorem RowsInv.skip {H0 H1 H' : Hp} {g : Env} {D : Addr} {i : Nat} (h : RowsInv H0 H1 g D i H') : RowsInv H0 H1 g D (i + 1) H' := by
  obtain ⟨xs, a, b, c, d⟩ := h
  exact ⟨xs, a, Nat.le_succ_of_le b, c, d⟩
theorem RowsInv.same {H0 H1 H' : Hp} {g : Env} {D : Addr} {i : Nat} (h : RowsInv H0 H1 g D i H') : Same H1 H' := by
  obtain ⟨_, _, _, _, d⟩ := h
  exact d
theorem RowsInv.step {H0 H1 H' : Hp} {g : Env} {D T : Addr} {i : Nat} {s : Str} (h : RowsInv H0 H1 g D i H') (nD : H1 D = none) (nT : H' T = none) (n0 : H0 T = none) (hs : (s, 0) ∈ g.cells ∨ s ∈ g.vars) :
    ∃ ys, (upd H' T (.tup [.str "cell", .str s])) D = some (.lst ys) ∧ ys.length ≤ i ∧ RowsInv H0 H1 g D (i + 1) (upd (upd H' T (.tup [.str "cell", .str s])) D (.lst (ys ++ [.ref T]))) := by
  obtain ⟨xs, a, b, c, d⟩ := h
  have TD : T ≠ D := (ne_of_none a nT).symm
  have keep : ∀ q zs, H' q = some (.tup zs) → (upd (upd H' T (.tup [.str "cell", .str s])) D (.lst (xs ++ [.ref T]))) q = some (.tup zs) := fun q zs e => by
    rw [upd_ne (ne_of e a (by intro z; cases z)), upd_ne (ne_of_none e nT)]
    exact e
  refine ⟨xs, by rw [upd_ne TD.symm]; exact a, b, xs ++ [.ref T], upd_same, by rw [List.length_append, List.length_singleton]; omega, fun y hy => ?_, fun q z e => ?_⟩
  · rcases List.mem_append.mp hy with hy | hy
    · exact (c y hy).same keep
    · rw [List.mem_singleton.mp hy]
      exact ⟨T, s, rfl, n0, by rw [upd_ne TD]; exact upd_same, hs⟩
  · rw [upd_ne (ne_of_none e nD), upd_ne (ne_of_none (d q z e) nT)]
    exact d q z e
theorem step__law_expr (T : Top K mg) {d : Nat} {sp' : Sp} (ih : FnOk P w K mg base CX0 (3 + d) T.a__law_expr T.d__law_expr ["state", "env", "deep"] sp') (imp : ∀ (d' : Nat) vs H Q E, d = d' + 1 → sp__law_expr K d' vs H Q E → sp' vs H Q E) :
    FnOk P w K mg base CX0 (3 + d + 1) T.a__law_expr T.d__law_expr ["state", "env", "deep"] (sp__law_expr K d) := by
  refine T.F__law_expr.ok sc__law_expr (fun vs H Q E h => ?_) (fun cdv A outer s H vs Q E hr h => ?_)
  · obtain ⟨_, _, _, _, _, _, _, rfl, _⟩ := h
    rfl
  · obtain ⟨He, H0, p, c, e, g, deep, rfl, st, en, gz, dd, q⟩ := h
    refine ⟨_, (pss_cons (ps_set (i := 3) sc__law_expr.nd rfl (by first | exact Or.inl rfl | exact Or.inr rfl) (pe_lst (pa_cons pe_str (pa_cons pe_str (pa_cons pe_str (pa_cons pe_str (pa_cons pe_str (pa_cons pe_str (pa_cons pe_str (pa_cons pe_str (pa_cons pe_str (pa_cons pe_str (pa_cons pe_str (pa_cons pe_str (pa_cons pe_str (pa_cons pe_str (pa_cons pe_str (pa_cons pe_str (pa_cons pe_str (pa_cons pe_str pa_nil))))))))))))))))))))
  (pss_cons (ps_set (i := 4) sc__law_expr.nd rfl (by first | exact Or.inl rfl | exact Or.inr rfl) (pe_call (ok__law_draw T) (hr.mono (by show _ ≤ 3 + d; omega)) (by rfl) T.g__law_draw T.F__law_draw.kp T.b__law_draw .nil pass0 (pa_cons (pv 0) (pa_cons pe_int pa_nil))))
  (pss_cons (ps_if (pw_or (pt_cmpR op_le (pv 2) pe_int (nomark _)) (pw_or1 (pt_cmpR op_lt (pv 4) pe_int (nomark _)))).pt
  (pss_cons (ps_set (i := 5) sc__law_expr.nd rfl (by first | exact Or.inl rfl | exact Or.inr rfl) (pe_op op_cat (pe_lc (own := [("name", 6), ("size", 7)]) (g := (gTup K 2 (gCons (gName 6) (gCons (gName 7) gNil)))) rfl sc__law_expr.nd (pi_list (pe_ix ix_list (pv 1) pe_int (fun _ _ => rfl))) (blkOk_by (N := ["state", "env", "deep", "signs", "kind", "rows", "name", "size", "first"]) (sc := defScope s__law_expr) (by decide +kernel)) (fun _ _ _ _ _ => (pg_tup rfl (pgs_cons (pg_name (i := 6) sc__law_expr.nd rfl (Or.inl rfl)) (pgs_cons (pg_name (i := 7) sc__law_expr.nd rfl (Or.inl rfl)) pgs_nil)))) (fun _ _ _ _ _ => pts_one (pt_cmpR op_eq (pv 7) pe_int (nomark _))) (fun _ _ _ _ _ => (pe_tup (pa_cons pe_str (pa_cons (pv 6) pa_nil))))) (pe_lc (own := [("name", 6)]) (g := gName 6) (tt := tYes) rfl sc__law_expr.nd (pi_list (pe_ix ix_list (pv 1) pe_int (fun _ _ => rfl))) (blkOk_by (N := ["state", "env", "deep", "signs", "kind", "rows", "name", "size", "first"]) (sc := defScope s__law_expr) (by decide +kernel)) (fun _ _ _ _ _ => pg_name (i := 6) sc__law_expr.nd rfl (Or.inl rfl)) (fun _ _ _ _ _ => pts_nil) (fun _ _ _ _ _ => (pe_tup (pa_cons pe_str (pa_cons (pv 6) pa_nil)))))))
  (pss_cons (ps_if (pw_or (pt_cmpR op_eq (pe_callB call_len_seq (by rfl) T.m_len PySem.boot_len (pa_cons (pv 5) pa_nil)) pe_int (nomark _)) (pw_or1 (pt_cmpR op_eq (pe_call (ok__law_draw T) (hr.mono (by show _ ≤ 3 + d; omega)) (by rfl) T.g__law_draw T.F__law_draw.kp T.b__law_draw .nil pass0 (pa_cons (pv 0) (pa_cons pe_int pa_nil))) pe_int (nomark _)))).pt
  (pss_one (ps_ret (pe_tup (pa_cons pe_str (pa_cons (pe_call (ok__law_word T) (hr.mono (by show _ ≤ 3 + d; omega)) (by rfl) T.g__law_word T.F__law_word.kp T.b__law_word .nil pass0 (pa_cons (pv 0) pa_nil)) pa_nil)))))
  pss_nil)
  (pss_one (ps_ret (pe_call (ok__law_pick T) (hr.mono (by show _ ≤ 3 + d; omega)) (by rfl) T.g__law_pick T.F__law_pick.kp T.b__law_pick .nil pass0 (pa_cons (pv 0) (pa_cons (pv 5) pa_nil)))))))
  pss_nil)
  (pss_cons (ps_setLc (i := 5) (own := [("name", 6), ("size", 7)]) (g := (gTup K 2 (gCons (gName 6) (gCons (gName 7) gNil)))) rfl sc__law_expr.nd rfl rfl (sw_true rfl rfl rfl (by decide +kernel)) (pi_list (pe_ix ix_list (pv 1) pe_int (fun _ _ => rfl))) (blkOk_by (N := ["state", "env", "deep", "signs", "kind", "rows", "name", "size", "first"]) (sc := defScope s__law_expr) (by decide +kernel)) (fun _ _ _ _ _ => (pg_tup rfl (pgs_cons (pg_name (i := 6) sc__law_expr.nd rfl (Or.inl rfl)) (pgs_cons (pg_name (i := 7) sc__law_expr.nd rfl (Or.inl rfl)) pgs_nil)))) (fun _ _ _ _ _ => pts_one (pt_cmpR op_gt (pv 7) pe_int (nomark _))) (fun _ _ _ _ _ => (pv 6)))
  (pss_cons (ps_if (pw_and (pt_cmpR op_eq (pv 4) pe_int (nomark _)) (pw_and1 (pt_cmpR op_gt (pe_callB call_len_seq (by rfl) T.m_len PySem.boot_len (pa_cons (pv 5) pa_nil)) pe_int (nomark _)))).pt
  (pss_one (ps_ret (pe_tup (pa_cons pe_str (pa_cons (pe_call (ok__law_pick T) (hr.mono (by show _ ≤ 3 + d; omega)) (by rfl) T.g__law_pick T.F__law_pick.kp T.b__law_pick .nil pass0 (pa_cons (pv 0) (pa_cons (pv 5) pa_nil))) (pa_cons (pe_call ih (hr.mono (by show _ ≤ 3 + d; omega)) (by rfl) T.g__law_expr T.F__law_expr.kp T.b__law_expr .nil pass0 (pa_cons (pv 0) (pa_cons (pv 1) (pa_cons (pe_op op_sub (pv 2) pe_int) pa_nil)))) pa_nil))))))
  pss_nil)
  (pss_cons (ps_if (pt_cmpR op_eq (pv 4) pe_int (nomark _))
  (pss_one (ps_ret (pe_tup (pa_cons (pe_call (ok__law_pick T) (hr.mono (by show _ ≤ 3 + d; omega)) (by rfl) T.g__law_pick T.F__law_pick.kp T.b__law_pick .nil pass0 (pa_cons (pv 0) (pa_cons (pe_lst (pa_cons pe_str (pa_cons pe_str (pa_cons pe_str pa_nil)))) pa_nil))) (pa_cons (pe_call ih (hr.mono (by show _ ≤ 3 + d; omega)) (by rfl) T.g__law_expr T.F__law_expr.kp T.b__law_expr .nil pass0 (pa_cons (pv 0) (pa_cons (pv 1) (pa_cons (pe_op op_sub (pv 2) pe_int) pa_nil)))) pa_nil)))))
  pss_nil)
  (pss_cons (ps_set (i := 8) sc__law_expr.nd rfl (by first | exact Or.inl rfl | exact Or.inr rfl) (pe_call ih (hr.mono (by show _ ≤ 3 + d; omega)) (by rfl) T.g__law_expr T.F__law_expr.kp T.b__law_expr .nil pass0 (pa_cons (pv 0) (pa_cons (pv 1) (pa_cons (pe_op op_sub (pv 2) pe_int) pa_nil)))))
  (pss_one (ps_ret (pe_tup (pa_cons (pe_call (ok__law_pick T) (hr.mono (by show _ ≤ 3 + d; omega)) (by rfl) T.g__law_pick T.F__law_pick.kp T.b__law_pick .nil pass0 (pa_cons (pv 0) (pa_cons (pv 3) pa_nil))) (pa_cons (pv 8) (pa_cons (pe_call ih (hr.mono (by show _ ≤ 3 + d; omega)) (by rfl) T.g__law_expr T.F__law_expr.kp T.b__law_expr .nil pass0 (pa_cons (pv 0) (pa_cons (pv 1) (pa_cons (pe_op op_sub (pv 2) pe_int) pa_nil)))) pa_nil))))))))))))), ?_⟩
    refine ⟨by show 18 ≤ sizeLine; decide, fun sg nsg => ?_⟩
    have s1 := same_new (o := .lst (BINS.map V.str)) nsg
    have st1 := st.keep (Keep.same s1) (st.st.same s1)
    refine ⟨_, rfl, p, c, 6, rfl, st1.st, by decide, by decide, fun kind H1 a1 b1 sk1 k1 => ?_⟩
    have st2 := st1.keep k1 sk1
    have sgo := st.st.ne nsg
    have hsg : H1 sg = some (.lst (BINS.map V.str)) := k1 _ _ sgo.1 sgo.2 upd_same
    have k01 := (Keep.same (p := p) (c := c) s1).trans k1
    have en1 : EnvAt K (New He H1) e g := en.same (New.keep st.ep st.ec k01)
    obtain ⟨C, V', Po, Ca, e1, ⟨ts, c1, c2, c3⟩, v1, _, _⟩ := en1
    have he1 := (New.get e1).2
    have hC1 := (New.get c1).2
    have hV1 := (New.get v1).2
    dsimp only [gName, tSeq]
    refine if_or (a := decide (deep ≤ 1)) (b := decide (kind < 2)) (fun Q' q' => ⟨_, rfl, _, _, rfl, rfl, _, rfl, q'⟩) (fun _ Q' q' => ⟨_, rfl, _, _, rfl, rfl, _, rfl, q'⟩) (ite2 (fun cc => ?_) (fun cc => ?_))
    · refine ⟨_, rfl, e, _, 0, .ref C, rfl, rfl, SqL.of he1, at_of (j := 0) rfl rfl, C, rfl, ⟨_, SqL.of hC1⟩, fun D nD => ?_⟩
      refine lc_list (xs := ts.map V.ref) (RowsInv H0 H1 g D) (RowsInv.zero nD) (fun i H' _ ci => SqL.of (ci.same _ _ hC1)) ?_ ?_
      · intro i v H' hv ci
        obtain ⟨t, ht, rfl⟩ : ∃ t, ts[i]? = some t ∧ V.ref t = v := by
          rw [List.getElem?_map] at hv
          cases e : ts[i]? with
          | none => rw [e] at hv; cases hv
          | some l => rw [e] at hv; exact ⟨l, rfl, Option.some.inj hv⟩
        have il : i < g.cells.length := by
          rw [← c2]
          exact (List.getElem?_eq_some_iff.mp ht).1
        have hT := Same.seqT ci.same (Same.seqT New.sub (c3 i t _ ht (List.getElem?_eq_getElem il)))
        refine ⟨t, _, rfl, hT, rfl, _, _, rfl, _, _, rfl, rfl, rfl, ?_⟩
        refine ⟨_, rfl, rfl, _, rfl, ite2 (fun c4 => ?_) (fun c4 => ?_)⟩
        · refine ⟨_, rfl, by show 2 ≤ sizeLine; decide, fun T2 nT => ?_⟩
          have sz := V.int.inj (of_decide_eq_true c4)
          obtain ⟨ys, y1, yl, y3⟩ := ci.step (s := (g.cells[i]).1) nD nT (st2.new (ci.same.free nT)) (.inl (by rw [← sz]; exact List.getElem_mem il))
          exact ⟨ys, y1, small1000 (by have := gz.1; omega), y3⟩
        · exact ci.skip
      · intro H2 ci
        obtain ⟨xs, x1, x2, x3, s2⟩ := ci
        have he2 := s2 _ _ he1
        have hV2 := s2 _ _ hV1
        refine ⟨_, rfl, e, _, 1, .ref V', rfl, rfl, SqL.of he2, at_of (j := 1) rfl rfl, V', rfl, ⟨_, SqL.of hV2⟩, fun D2 nD2 => ?_⟩
        have D12 : D ≠ D2 := ne_of_none x1 nD2
        refine lc_list (xs := g.vars.map V.str) (RowsInv H0 H2 g D2) (RowsInv.zero nD2) (fun i H' _ ci => SqL.of (ci.same _ _ hV2)) ?_ ?_
        · intro i v H' hv ci
          obtain ⟨nm, hn, rfl⟩ : ∃ nm, g.vars[i]? = some nm ∧ V.str nm = v := by
            rw [List.getElem?_map] at hv
            cases e : g.vars[i]? with
            | none => rw [e] at hv; cases hv
            | some l => rw [e] at hv; exact ⟨l, rfl, Option.some.inj hv⟩
          refine ⟨rfl, ?_⟩
          refine ⟨_, rfl, by show 2 ≤ sizeLine; decide, fun T2 nT => ?_⟩
          have n2 : H2 T2 = none := ci.same.free nT
          obtain ⟨ys, y1, yl, y3⟩ := ci.step (s := nm) nD2 nT (st2.new (s2.free n2)) (.inr (List.mem_of_getElem? hn))
          have il : i < g.vars.length := (List.getElem?_eq_some_iff.mp hn).1
          exact ⟨ys, y1, small1000 (by have := gz.2.1; omega), y3⟩
        · intro H3 ci3
          obtain ⟨xs3, z1, z2, z3, s3⟩ := ci3
          rw [List.length_map] at x2 z2
          obtain ⟨g1, g2, _⟩ := gz
          refine ⟨D, D2, _, _, rfl, rfl, s3 _ _ x1, z1, ?_, fun R nR => ?_⟩
          · exact Nat.le_of_lt (small1000 (by omega))
          have s4 := same_new (o := .lst (xs ++ xs3)) nR
          have st4 : StOk (upd H3 R (.lst (xs ++ xs3))) p c := ((sk1.same s2).same s3).same s4
          have k4 : Keep p c H (upd H3 R (.lst (xs ++ xs3))) := k01.trans (Keep.same ((s2.trans s3).trans s4))
          have rows : ∀ y ∈ xs ++ xs3, CellRow H0 (upd H3 R (.lst (xs ++ xs3))) g y := fun y hy => by
            rcases List.mem_append.mp hy with hy | hy
            · exact (x3 y hy).same fun a zs h => s4 _ _ (s3 _ _ h)
            · exact (z3 y hy).same fun a zs h => s4 _ _ h
          have num : ∀ (n : Int) H6 T2, Word n → StOk H6 p c → Keep p c H H6 → H6 T2 = none → Q (.ref T2) (upd H6 T2 (.tup [.str "num", .int n])) := fun n H6 T2 hn st6 k6 nT => by
            have k7 := k6.trans (Keep.same (same_new (o := .tup [.str "num", .int n]) nT))
            exact q _ (.num n) _ (.tup (SqT.of (New.of ((st.keep k6 st6).new nT) upd_same)) (.cons (.str _) (.cons (.int _) .nil))) hn (by show (1 : Int) ≤ _; omega) (st6.same (same_new nT)) k7
          have nR3 : H3 R = none := nR
          have Ro := ((sk1.same s2).same s3).ne nR
          refine ⟨_, rfl, R, _, rfl, .inl (SqL.of upd_same), rfl, _, rfl, ite2 (fun c5 => iteT ?_) (fun c5 => ?_)⟩
          · exact ⟨_, rfl, p, c, rfl, st4, fun n H6 hn st6 k6 => ⟨by show 2 ≤ sizeLine; decide, fun T2 nT => num n H6 T2 hn st6 (k4.trans k6) nT⟩⟩
          · refine ⟨_, rfl, p, c, 3, rfl, st4, by decide, by decide, fun v5 H5 _ _ st5 k5 => ⟨rfl, _, rfl, ite2 (fun c6 => ?_) (fun c6 => ?_)⟩⟩
            · exact ⟨_, rfl, p, c, rfl, st5, fun n H6 hn st6 k6 => ⟨by show 2 ≤ sizeLine; decide, fun T2 nT => num n H6 T2 hn st6 ((k4.trans k5).trans k6) nT⟩⟩
            · refine ⟨_, rfl, _, rfl, p, c, R, _, rfl, st5, k5 _ _ Ro.1 Ro.2 upd_same, ?_, ?_, Ro.1, Ro.2, fun y my H6 st6 k6 => ?_⟩
              · intro z
                exact c5 (decide_eq_true (by rw [z]; rfl))
              · rw [List.length_append]
                omega
              · have kk : ∀ a zs, (upd H3 R (.lst (xs ++ xs3))) a = some (.tup zs) → H6 a = some (.tup zs) := fun a zs h => by
                  obtain ⟨ms, sd, _, hp, hc, _⟩ := st4
                  exact (k5.trans k6) a _ (ne_of h hp (by intro z; cases z)) (ne_of h hc (by intro z; cases z)) h
                obtain ⟨x, h1, h2, h3⟩ := ((rows y my).same kk).dp (K := K)
                exact q y x H6 h1 h2 (by rw [h3]; show (1 : Int) ≤ _; omega) st6 (k4.trans (k5.trans k6))
    · have cd : ¬ deep ≤ 1 := fun z => cc (by rw [decide_eq_true z]; rfl)
      obtain ⟨d', rfl⟩ : ∃ d', d = d' + 1 := ⟨d - 1, by omega⟩
      refine ⟨_, rfl, e, _, 0, .ref C, rfl, rfl, SqL.of he1, at_of (j := 0) rfl rfl, C, rfl, ⟨_, SqL.of hC1⟩, fun D nD => ?_⟩
      refine lc_list (xs := ts.map V.ref) (fun i H' => ∃ xs : List Str, H' D = some (.lst (xs.map V.str)) ∧ xs.length ≤ i ∧ (∀ s ∈ xs, ∃ z : Int, 0 < z ∧ (s, z) ∈ g.cells) ∧ Same H1 H') ⟨[], upd_same, Nat.le_refl _, by simp, same_new nD⟩ (fun i H' _ ⟨_, _, _, _, sm⟩ => SqL.of (sm _ _ hC1)) ?_ ?_
      · rintro i v H' hv ⟨xs, x1, x2, x3, sm⟩
        obtain ⟨t, ht, rfl⟩ : ∃ t, ts[i]? = some t ∧ V.ref t = v := by
          rw [List.getElem?_map] at hv
          cases e : ts[i]? with
          | none => rw [e] at hv; cases hv
          | some l => rw [e] at hv; exact ⟨l, rfl, Option.some.inj hv⟩
        have il : i < g.cells.length := by
          rw [← c2]
          exact (List.getElem?_eq_some_iff.mp ht).1
        have hT := Same.seqT sm (Same.seqT New.sub (c3 i t _ ht (List.getElem?_eq_getElem il)))
        refine ⟨t, _, rfl, hT, rfl, _, _, rfl, _, _, rfl, rfl, rfl, ?_⟩
        refine ⟨_, rfl, _, _, rfl, rfl, _, rfl, ite2 (fun c4 => ?_) (fun c4 => ?_)⟩
        · refine ⟨_, rfl, _, x1, ?_, xs ++ [(g.cells[i]).1], ?_, ?_, ?_, ?_⟩
          · rw [List.length_map]
            exact small1000 (by have := gz.1; omega)
          · rw [upd_same, List.map_append]
            rfl
          · rw [List.length_append, List.length_singleton]
            omega
          · intro s hs
            rcases List.mem_append.mp hs with hs | hs
            · exact x3 s hs
            · rw [List.mem_singleton.mp hs]
              exact ⟨(g.cells[i]).2, of_decide_eq_true c4, List.getElem_mem il⟩
          · intro b z e
            rw [upd_ne (ne_of_none e nD)]
            exact sm b z e
        · exact ⟨xs, x1, Nat.le_succ_of_le x2, x3, sm⟩
      · rintro H2 ⟨xs, x1, x2, x3, s2⟩
        rw [List.length_map] at x2
        have sk2 := sk1.same s2
        have k02 := k01.trans (Keep.same (p := p) (c := c) s2)
        have Do := sk1.ne nD
        have hsg2 := s2 _ _ hsg
        -- one more expression
        have sub : ∀ (Hn : Hp) (R : VK), StOk Hn p c → Keep p c H Hn → (∀ v x H', Dp K (New H0 H') v x.d → ExW g x → (x.depth : Int) ≤ max 1 (deep - 1) → StOk H' p c → Keep p c Hn H' → R v H') → sp' [.ref p, .ref e, .int (deep - 1)] Hn R E0 := fun Hn R stn kn hR =>
          imp d' _ Hn R _ rfl ⟨He, H0, p, c, e, g, deep - 1, rfl, st.keep kn stn, en.same (New.keep st.ep st.ec kn), gz, by omega, hR⟩
        have dp6 : ∀ {Ha Hb : Hp} {v : V} {x : Ex}, Dp K (New H0 Ha) v x.d → Keep p c Ha Hb → Dp K (New H0 Hb) v x.d := fun h k => dp_same (New.keep st.op st.oc k) h
        dsimp only [gName, tSeq]
        refine if_and (a := decide (V.int kind = V.int 2)) (b := decide (((xs.map V.str).length : Int) > 0)) (fun Q' q' => ⟨_, rfl, rfl, _, rfl, q'⟩) (fun _ Q' q' => ⟨_, rfl, D, _, rfl, .inl (SqL.of x1), _, _, rfl, rfl, _, rfl, q'⟩) (ite2 (fun c5 => ?_) (fun c5 => ?_))
        · -- an array cell
          rw [Bool.and_eq_true] at c5
          have x0 := of_decide_eq_true c5.2
          refine ⟨_, rfl, _, rfl, p, c, D, _, rfl, sk2, x1, ?_, ?_, Do.1, Do.2, fun y my H3 st3 k3 => ?_⟩
          · intro z
            rw [z] at x0
            exact absurd x0 (by decide)
          · rw [List.length_map]
            have := gz.1
            omega
          · obtain ⟨nm, mn, rfl⟩ := List.mem_map.mp my
            refine ⟨_, rfl, _, rfl, _, rfl, _, _, rfl, rfl, sub H3 _ st3 (k02.trans k3) fun v x H4 h1 h2 h3 st4 k4 => ?_⟩
            refine ⟨by show 3 ≤ sizeLine; decide, fun T2 nT => ?_⟩
            have sT := same_new (o := .tup [.str "at", .str nm, v]) nT
            have kT := Keep.same (p := p) (c := c) sT
            have k04 := (k02.trans k3).trans k4
            refine q _ (.at nm x) _ (.tup (SqT.of (New.of ((st.keep k04 st4).new nT) upd_same)) (.cons (.str _) (.cons (.str _) (.cons (dp6 h1 kT) .nil)))) ⟨x3 nm mn, h2⟩ ?_ (st4.same sT) (k04.trans kT)
            show ((1 + x.depth : Nat) : Int) ≤ _
            omega
        · refine ⟨_, rfl, rfl, _, rfl, ite2 (fun c6 => ?_) (fun c6 => ?_)⟩
          · -- one operand
            refine ⟨_, rfl, by show 3 ≤ sizeLine; decide, fun l nl => ?_⟩
            have lo := sk2.ne nl
            have sl := same_new (o := .lst [.str "neg", .str "inv", .str "not"]) nl
            refine ⟨p, c, l, _, rfl, sk2.same sl, upd_same, by simp, by decide, lo.1, lo.2, fun y my H3 st3 k3 => ?_⟩
            obtain ⟨nm, rfl, mn⟩ : ∃ nm : Str, y = .str nm ∧ nm ∈ UNS := by
              obtain ⟨nm, h1, h2⟩ := List.mem_map.mp (show y ∈ UNS.map V.str from my)
              exact ⟨nm, h2.symm, h1⟩
            have k03 := (k02.trans (Keep.same sl)).trans k3
            refine ⟨_, rfl, _, rfl, _, rfl, _, _, rfl, rfl, sub H3 _ st3 k03 fun v x H4 h1 h2 h3 st4 k4 => ?_⟩
            refine ⟨by show 2 ≤ sizeLine; decide, fun T2 nT => ?_⟩
            have sT := same_new (o := .tup [.str nm, v]) nT
            have kT := Keep.same (p := p) (c := c) sT
            have k04 := k03.trans k4
            refine q _ (.un nm x) _ (.tup (SqT.of (New.of ((st.keep k04 st4).new nT) upd_same)) (.cons (.str _) (.cons (dp6 h1 kT) .nil))) ⟨mn, h2⟩ ?_ (st4.same sT) (k04.trans kT)
            show ((1 + x.depth : Nat) : Int) ≤ _
            omega
          · -- two operands
            refine ⟨_, rfl, _, rfl, _, rfl, _, _, rfl, rfl, sub H2 _ sk2 k02 fun v x H3 h1 h2 h3 st3 k3 => ?_⟩
            have k03 := k02.trans k3
            refine ⟨_, rfl, _, rfl, p, c, sg, _, rfl, st3, k3 _ _ sgo.1 sgo.2 hsg2, by decide, by decide, sgo.1, sgo.2, fun y my H4 st4 k4 => ?_⟩
            obtain ⟨nm, mn, rfl⟩ := List.mem_map.mp my
            have k04 := k03.trans k4
            refine ⟨_, rfl, _, rfl, _, rfl, _, rfl, _, _, rfl, rfl, sub H4 _ st4 k04 fun v2 x2 H5 g1 g2 g3 st5 k5 => ?_⟩
            refine ⟨by show 3 ≤ sizeLine; decide, fun T2 nT => ?_⟩
            have sT := same_new (o := .tup [.str nm, v, v2]) nT
            have kT := Keep.same (p := p) (c := c) sT
            have k05 := k04.trans k5
            refine q _ (.bin nm x x2) _ (.tup (SqT.of (New.of ((st.keep k05 st5).new nT) upd_same)) (.cons (.str _) (.cons (dp6 h1 ((k4.trans k5).trans kT)) (.cons (dp6 g1 kT) .nil)))) ⟨mn, h2, g2⟩ ?_ (st5.same sT) (k05.trans kT)
            show ((1 + max x.depth x2.depth : Nat) : Int) ≤ _
            omega
theorem okd__law_expr (T : Top K mg) : ∀ d : Nat, FnOk P w K mg base CX0 (3 + d + 1) T.a__law_expr T.d__law_expr ["state", "env", "deep"] (sp__law_expr K d)
  | 0 => step__law_expr T (sp' := fun _ _ _ _ => False) ⟨fun _ _ _ _ h => h.elim, fun _ _ _ _ _ _ _ _ _ _ _ _ _ h => h.elim⟩ fun d' _ _ _ _ h => absurd h.symm (Nat.succ_ne_zero d')
  | d + 1 => step__law_expr T (okd__law_expr T d) fun d' vs H Q E h z => by
    cases h
    exact z
end

/-! ### a heap without some places -/
open Classical in
noncomputable def Cut (S : Addr → Prop) (H : Hp) : Hp := fun a => if S a then none else H a
theorem Cut.sub {S : Addr → Prop} {H : Hp} : Same (Cut S H) H := fun a x h => by
  unfold Cut at h
  split at h
  · cases h
  · exact h
theorem Cut.at {S : Addr → Prop} {H : Hp} {a : Addr} {x : HO} (n : ¬ S a) (h : H a = some x) : Cut S H a = some x := by
  unfold Cut; rw [if_neg n]; exact h
theorem Cut.get {S : Addr → Prop} {H : Hp} {a : Addr} {x : HO} (h : Cut S H a = some x) : ¬ S a ∧ H a = some x := by
  unfold Cut at h
  split at h
  · cases h
  · rename_i n; exact ⟨n, h⟩
theorem Cut.mono {S S' : Addr → Prop} {H : Hp} (i : ∀ a, S' a → S a) : Same (Cut S H) (Cut S' H) := fun a x h => by
  obtain ⟨n, e⟩ := Cut.get h
  exact Cut.at (fun m => n (i a m)) e
theorem Cut.same {S : Addr → Prop} {H H' : Hp} (s : Same H H') : Same (Cut S H) (Cut S H') := fun a x h => by
  obtain ⟨n, e⟩ := Cut.get h
  exact Cut.at n (s a x e)
/-- all is kept but at the places left out -/
theorem Cut.keep {S : Addr → Prop} {H H' : Hp} (k : ∀ b x, ¬ S b → H b = some x → H' b = some x) : Same (Cut S H) (Cut S H') := fun a x h => by
  obtain ⟨n, e⟩ := Cut.get h
  exact Cut.at n (k a x n e)
theorem Cut.upd {S : Addr → Prop} {H : Hp} {a : Addr} {o : HO} (h : S a) : Same (Cut S H) (Cut S (upd H a o)) := Cut.keep fun b x n e => by
  rw [L2.upd_ne (fun z => n (by rw [z]; exact h))]; exact e
/-- a place that was free may be left out -/
theorem Cut.free {S : Addr → Prop} {H H' : Hp} {l : Addr} (s : Same H H') (n : H l = none) : Same (Cut S H) (Cut (fun a => S a ∨ a = l) H') := fun a x h => by
  obtain ⟨m, e⟩ := Cut.get h
  refine Cut.at ?_ (s a x e)
  rintro (z | rfl)
  · exact m z
  · rw [n] at e; cases e
theorem Cut.free2 {S : Addr → Prop} {H H' : Hp} {l m : Addr} (s : Same H H') (n : H l = none) (n2 : H m = none) : Same (Cut S H) (Cut (fun a => S a ∨ a = l ∨ a = m) H') := fun a x h => by
  obtain ⟨k, e⟩ := Cut.get h
  refine Cut.at ?_ (s a x e)
  rintro (z | rfl | rfl)
  · exact k z
  · rw [n] at e; cases e
  · rw [n2] at e; cases e
theorem Cut.all {H H' : Hp} (s : Same H H') : Same H (Cut (fun _ => False) H') := fun _ x h => Cut.at id (s _ x h)
/-- the places left out stand -/
def Live (S : Addr → Prop) (H : Hp) : Prop := ∀ a, S a → ∃ x, H a = some x
theorem Live.same {S : Addr → Prop} {H H' : Hp} (l : Live S H) (s : Same H H') : Live S H' := fun a m => let ⟨x, e⟩ := l a m; ⟨x, s a x e⟩
theorem Live.off {S : Addr → Prop} {H : Hp} {a : Addr} (l : Live S H) (n : H a = none) : ¬ S a := fun m => by
  obtain ⟨x, e⟩ := l a m
  rw [n] at e; cases e
theorem live0 {H : Hp} : Live (fun _ => False) H := fun _ h => h.elim
theorem Live.or {S : Addr → Prop} {H : Hp} {a : Addr} {x : HO} (l : Live S H) (h : H a = some x) : Live (fun b => S b ∨ b = a) H := fun b m => by
  rcases m with m | rfl
  · exact l b m
  · exact ⟨x, h⟩
/-! ### data: what it looks like -/
theorem dpT {K : PySem.W.Frag} {H : Hp} {v : V} {ds : List PyData} (h : Dp K H v (.tuple ds)) : ∃ t xs, v = .ref t ∧ SqT K H t xs ∧ DpAll K H xs ds := by
  cases h with
  | tup a b => exact ⟨_, _, rfl, a, b⟩
theorem dpL {K : PySem.W.Frag} {H : Hp} {v : V} {ds : List PyData} (h : Dp K H v (.list ds)) : ∃ t xs, v = .ref t ∧ SqL K H t xs ∧ DpAll K H xs ds := by
  cases h with
  | lst a b => exact ⟨_, _, rfl, a, b⟩
theorem dpS {K : PySem.W.Frag} {H : Hp} {v : V} {x : Str} (h : Dp K H v (.str x)) : v = .str x := by cases h; rfl
theorem dpI {K : PySem.W.Frag} {H : Hp} {v : V} {x : Int} (h : Dp K H v (.int x)) : v = .int x := by cases h; rfl
theorem dpN {K : PySem.W.Frag} {H : Hp} {v : V} (h : Dp K H v .none) : v = .non := by cases h; rfl
theorem dp0 {K : PySem.W.Frag} {H : Hp} {xs : List V} (h : DpAll K H xs []) : xs = [] := by cases h; rfl
theorem dp1 {K : PySem.W.Frag} {H : Hp} {xs : List V} {d : PyData} {ds : List PyData} (h : DpAll K H xs (d :: ds)) : ∃ v vs, xs = v :: vs ∧ Dp K H v d ∧ DpAll K H vs ds := by
  cases h with
  | cons a b => exact ⟨_, _, rfl, a, b⟩
theorem dp_at {K : PySem.W.Frag} {H : Hp} : ∀ {xs : List V} {ds : List PyData} {i : Nat} {d : PyData}, DpAll K H xs ds → ds[i]? = some d → ∃ v, xs[i]? = some v ∧ Dp K H v d
  | _, _, _, _, .nil, h => by simp at h
  | _, _, 0, _, .cons a _, h => by simp at h; subst h; exact ⟨_, rfl, a⟩
  | _, _, i + 1, _, .cons _ b, h => dp_at (i := i) b (by simpa using h)
theorem dp_at' {K : PySem.W.Frag} {H : Hp} : ∀ {xs : List V} {ds : List PyData} {i : Nat} {v : V}, DpAll K H xs ds → xs[i]? = some v → ∃ d, ds[i]? = some d ∧ Dp K H v d
  | _, _, _, _, .nil, h => by simp at h
  | _, _, 0, _, .cons a _, h => by simp at h; subst h; exact ⟨_, rfl, a⟩
  | _, _, i + 1, _, .cons _ b, h => dp_at' (i := i) b (by simpa using h)
theorem dps_app {K : PySem.W.Frag} {H : Hp} : ∀ {vs ws : List V} {ds es : List PyData}, DpAll K H vs ds → DpAll K H ws es → DpAll K H (vs ++ ws) (ds ++ es)
  | _, _, _, _, .nil, h => h
  | _, _, _, _, .cons a b, h => .cons a (dps_app b h)
theorem dps_set {K : PySem.W.Frag} {H : Hp} {v : V} {d : PyData} (h : Dp K H v d) : ∀ {vs : List V} {ds : List PyData} (i : Nat), DpAll K H vs ds → DpAll K H (vs.set i v) (ds.set i d)
  | _, _, _, .nil => .nil
  | _, _, 0, .cons _ b => .cons h b
  | _, _, i + 1, .cons a b => .cons a (dps_set h i b)
theorem dps_of {K : PySem.W.Frag} {H : Hp} : ∀ {vs : List V} {ds : List PyData}, vs.length = ds.length → (∀ (i : Nat) (v : V) (d : PyData), vs[i]? = some v → ds[i]? = some d → Dp K H v d) → DpAll K H vs ds
  | [], [], _, _ => .nil
  | [], _ :: _, h, _ => by simp at h
  | _ :: _, [], h, _ => by simp at h
  | v :: vs, d :: ds, h, f => .cons (f 0 v d rfl rfl) (dps_of (by simpa using h) fun i a b x y => f (i + 1) a b (by simpa using x) (by simpa using y))

theorem ok__law_expr {P : Program} {w : World} {K : PySem.W.Frag} {mg : Str → Option Value} {base : Heap} (T : Top K mg) : FnOk P w K mg base CX0 9 T.a__law_expr T.d__law_expr ["state", "env", "deep"] (sp__law_expr K 5) := okd__law_expr T 5
end Mine

set_option Elab.async false
set_option linter.all false
set_option maxRecDepth 100000
set_option maxHeartbeats 1000000


--@@rec _law_expr _law_value
--@@guardsys
namespace Mine
open PySem PySem.Spec PyProof.Rows L2
local macro_rules | `(tactic| walk_at "my rn") => `(tactic| (repeat (first | with_reducible refine Rd.catQI ?_ | with_reducible refine Rd.revN ?_ | with_reducible refine Rd.lzip ?_ | with_reducible refine Rd.fld ?_ | with_reducible refine Rd.sfld ?_ | with_reducible refine Rd.meth ?_ | with_reducible refine Rd.make ?_ | with_reducible refine Rd.izip ?_ | with_reducible refine Rd.ckw ?_ | with_reducible refine Rd.dsetd ?_ | with_reducible refine Rd.ddel ?_ | with_reducible refine Rd.disp ?_ | with_reducible refine Rd.pcons ?_ | with_reducible refine Rd.pnil ?_ | with_reducible refine Rd.dsp ?_ | with_reducible refine Rd.dnew ?_ | with_reducible refine Rd.din ?_ | with_reducible refine Rd.dnot ?_ | with_reducible refine Rd.dget ?_ | with_reducible refine Rd.dget2 ?_ | with_reducible refine Rd.dput ?_ | with_reducible refine Rd.cbDictOf ?_ | with_reducible refine Rd.iitems ?_ | with_reducible refine Rd.ikeys ?_ | with_reducible refine Rd.dc ?_ | with_reducible refine Rd.nwD ?_ | with_reducible refine Rd.tupN ?_ | with_reducible refine Rd.lstN ?_ | with_reducible refine Rd.cbListOf ?_ | with_reducible refine Rd.cbListOfR ?_ | with_reducible refine Rd.catI ?_ | with_reducible refine Rd.slN ?_ | with_reducible refine Rd.cbSrtI ?_ | with_reducible refine Rd.seq ?_ | with_reducible refine Rd.next ?_ | with_reducible refine Rd.brk ?_ | with_reducible refine Rd.cont ?_ | with_reducible refine Rd.asg ?_ | with_reducible refine Rd.ret ?_ | with_reducible refine Rd.retN ?_ | with_reducible refine Rd.drop ?_ | with_reducible refine Rd.ifs ?_ | with_reducible refine Rd.ife ?_ | with_reducible refine Rd.test ?_ | with_reducible refine Rd.tb_ ?_ | with_reducible refine Rd.bl ?_ | with_reducible refine Rd.bl2 ?_ | with_reducible refine Rd.and_ ?_ | with_reducible refine Rd.or_ ?_ | with_reducible refine Rd.not_ ?_ | with_reducible refine Rd.andV ?_ | with_reducible refine Rd.orV ?_ | with_reducible refine Rd.notV ?_ | with_reducible refine Rd.op ?_ | with_reducible refine Rd.un ?_ | with_reducible refine Rd.I0 ?_ | with_reducible refine Rd.U ?_ | with_reducible refine Rd.ip ?_ | with_reducible refine Rd.c_ ?_ | with_reducible refine Rd.nil ?_ | with_reducible refine Rd.cons ?_ | with_reducible refine Rd.call ?_ | with_reducible refine Rd.cb ?_ | with_reducible refine Rd.bm ?_ | with_reducible refine Rd.bm0 ?_ | with_reducible refine Rd.nopart ?_ | with_reducible refine Rd.part ?_ | with_reducible refine Rd.int1 ?_ | with_reducible refine Rd.ints1 ?_ | with_reducible refine Rd.ints2 ?_ | with_reducible refine Rd.gcons ?_ | with_reducible refine Rd.gnil ?_ | with_reducible refine Rd.sub ?_ | with_reducible refine Rd.isN ?_ | with_reducible refine Rd.chain ?_ | with_reducible refine Rd.rf ?_ | with_reducible refine Rd.tyS ?_ | with_reducible refine Rd.intI ?_ | with_reducible refine Rd.lc ?_ | with_reducible refine Rd.for_ ?_ | with_reducible refine Rd.ilist ?_ | with_reducible refine Rd.itup ?_ | with_reducible refine Rd.irng1 ?_ | with_reducible refine Rd.irng2 ?_ | with_reducible refine Rd.ienum ?_ | with_reducible refine Rd.istr ?_ | with_reducible refine Rd.refA ?_ | with_reducible refine Rd.strA ?_ | with_reducible refine Rd.yes ?_ | with_reducible refine Rd.ifT ?_ | with_reducible refine Rd.ifF ?_ | with_reducible refine Rd.ifnT ?_ | with_reducible refine Rd.ifnF ?_ | with_reducible refine Rd.isi_ii ?_ | with_reducible refine Rd.isi_ib ?_ | with_reducible refine Rd.isi_is ?_ | with_reducible refine Rd.isi_il ?_ | with_reducible refine Rd.isi_it ?_ | with_reducible refine Rd.isi_id ?_ | with_reducible refine Rd.isi_bi ?_ | with_reducible refine Rd.isi_bb ?_ | with_reducible refine Rd.isi_bs ?_ | with_reducible refine Rd.isi_bl ?_ | with_reducible refine Rd.isi_bt ?_ | with_reducible refine Rd.isi_bd ?_ | with_reducible refine Rd.isi_si ?_ | with_reducible refine Rd.isi_sb ?_ | with_reducible refine Rd.isi_ss ?_ | with_reducible refine Rd.isi_sl ?_ | with_reducible refine Rd.isi_st ?_ | with_reducible refine Rd.isi_sd ?_ | with_reducible refine Rd.isi_ni ?_ | with_reducible refine Rd.isi_nb ?_ | with_reducible refine Rd.isi_ns ?_ | with_reducible refine Rd.isi_nl ?_ | with_reducible refine Rd.isi_nt ?_ | with_reducible refine Rd.isi_nd ?_ | with_reducible refine Rd.sl ?_ | with_reducible refine Rd.v0 ?_ | with_reducible refine Rd.v1 ?_ | with_reducible refine Rd.v2 ?_ | with_reducible refine Rd.v3 ?_ | with_reducible refine Rd.v4 ?_ | with_reducible refine Rd.v5 ?_ | with_reducible refine Rd.v6 ?_ | with_reducible refine Rd.v7 ?_ | with_reducible refine Rd.v8 ?_ | with_reducible refine Rd.v9 ?_ | with_reducible refine Rd.v10 ?_ | with_reducible refine Rd.v11 ?_ | with_reducible refine Rd.v12 ?_ | with_reducible refine Rd.v13 ?_ | with_reducible refine Rd.v14 ?_ | with_reducible refine Rd.v15 ?_ | with_reducible refine Rd.n0 ?_ | with_reducible refine Rd.n1 ?_ | with_reducible refine Rd.n2 ?_ | with_reducible refine Rd.n3 ?_ | with_reducible refine Rd.n4 ?_ | with_reducible refine Rd.n5 ?_ | with_reducible refine Rd.n6 ?_ | with_reducible refine Rd.n7 ?_ | with_reducible refine Rd.n8 ?_ | with_reducible refine Rd.n9 ?_ | with_reducible refine Rd.n10 ?_ | with_reducible refine Rd.n11 ?_ | with_reducible refine Rd.n12 ?_ | with_reducible refine Rd.n13 ?_ | with_reducible refine Rd.n14 ?_ | with_reducible refine Rd.n15 ?_ | with_reducible refine Rd.g0 ?_ | with_reducible refine Rd.g1 ?_ | with_reducible refine Rd.g2 ?_ | with_reducible refine Rd.g3 ?_ | with_reducible refine Rd.g4 ?_ | with_reducible refine Rd.g5 ?_ | with_reducible refine Rd.g6 ?_ | with_reducible refine Rd.g7 ?_ | with_reducible refine Rd.g8 ?_ | with_reducible refine Rd.g9 ?_ | with_reducible refine Rd.g10 ?_ | with_reducible refine Rd.g11 ?_ | with_reducible refine Rd.g12 ?_ | with_reducible refine Rd.g13 ?_ | with_reducible refine Rd.g14 ?_ | with_reducible refine Rd.g15 ?_ | ((with_reducible apply Rd.glst); (first | assumption | exact upd_same); exact rfl) | ((with_reducible apply Rd.gtP); assumption; assumption) | ((with_reducible apply Rd.revq); first | assumption | exact SqL.of (by assumption)) | ((with_reducible apply Rd.fldI); (first | assumption | exact upd_same); assumption; assumption; (first | assumption | with_unfolding_all rfl)) | ((with_reducible apply Rd.methI); (first | assumption | exact upd_same); (first | assumption | with_unfolding_all rfl)) | ((with_reducible apply Rd.sfldI); (first | assumption | exact upd_same); assumption; assumption; exact Nat.le_of_ble_eq_true rfl) | ((with_reducible apply Rd.maxL); assumption) | ((with_reducible apply Rd.anyL); assumption) | ((with_reducible apply Rd.sumL); assumption) | ((with_reducible refine Rd.izI (by assumption) (by assumption) ?_)) | ((with_reducible refine Rd.eq ?_ ?_); exact rfl) | ((with_reducible refine Rd.ne ?_ ?_); exact rfl) | ((with_reducible refine Rd.szA ?_ ?_); exact Nat.le_of_ble_eq_true rfl) | ((with_reducible refine Rd.I ?_ ?_); first | assumption | decide | exact Or.inr (by decide +kernel) | exact Or.inl (by decide +kernel) | exact ⟨by decide, by decide⟩ | exact ⟨by decide, by decide, by decide⟩ | omega) | ((with_reducible apply Rd.tyL); first | assumption | exact upd_same) | ((with_reducible apply Rd.tyLq); assumption) | ((with_reducible apply Rd.ixL); (first | assumption | exact upd_same); exact rfl) | ((with_reducible apply Rd.ixT); (first | assumption | exact upd_same); exact rfl) | ((with_reducible apply Rd.ixLq); assumption; exact rfl) | ((with_reducible apply Rd.ixTq); assumption; exact rfl) | ((with_reducible apply Rd.gtup); (first | assumption | exact upd_same); exact rfl) | ((with_reducible apply Rd.gtupq); assumption; exact rfl) | ((with_reducible apply Rd.sqAq); assumption) | ((with_reducible apply Rd.stAq); assumption) | ((with_reducible apply Rd.enAq); assumption) | ((with_reducible apply Rd.lenLq); assumption) | ((with_reducible apply Rd.lenTq); assumption) | ((with_reducible apply Rd.sqA); first | assumption | exact upd_same) | ((with_reducible apply Rd.stA); first | assumption | exact upd_same) | ((with_reducible apply Rd.enA); first | assumption | exact upd_same) | ((with_reducible apply Rd.lenL); first | assumption | exact upd_same) | ((with_reducible apply Rd.lenT); first | assumption | exact upd_same) | ((with_reducible refine Rd.nwT ?_ ?_); exact Nat.le_of_ble_eq_true rfl) | ((with_reducible refine Rd.nwL ?_ ?_); exact Nat.le_of_ble_eq_true rfl) | ((with_reducible apply Rd.isd); assumption) | ((with_reducible apply Rd.dictOf); assumption) | ((with_reducible refine Rd.isi_dd (by assumption) ?_)) | ((with_reducible apply Rd.itA); first | assumption | exact upd_same) | ((with_reducible apply Rd.ikA); first | assumption | exact upd_same) | ((with_reducible apply Rd.listOf); assumption) | ((with_reducible apply Rd.listOfq); assumption) | ((with_reducible apply Rd.slo); assumption) | ((with_reducible apply Rd.slq); assumption) | ((with_reducible apply Rd.srtI); assumption) | ((with_reducible apply Rd.srtIo); assumption) | ((with_reducible refine Rd.isi_li (by assumption) ?_)) | ((with_reducible refine Rd.isi_lb (by assumption) ?_)) | ((with_reducible refine Rd.isi_ls (by assumption) ?_)) | ((with_reducible refine Rd.isi_ll (by assumption) ?_)) | ((with_reducible refine Rd.isi_lt (by assumption) ?_)) | ((with_reducible refine Rd.isi_ld (by assumption) ?_)) | ((with_reducible refine Rd.isi_ti (by assumption) ?_)) | ((with_reducible refine Rd.isi_tb (by assumption) ?_)) | ((with_reducible refine Rd.isi_ts (by assumption) ?_)) | ((with_reducible refine Rd.isi_tl (by assumption) ?_)) | ((with_reducible refine Rd.isi_tt (by assumption) ?_)) | ((with_reducible refine Rd.isi_td (by assumption) ?_)))))







/-! ### the parts of an expression -/
def Ex.ops : Ex → List Ex
  | num _ => []
  | cell _ => []
  | «at» _ i => [i]
  | un _ a => [a]
  | bin _ a b => [a, b]
def Ex.post : Ex → List Ex
  | num n => [num n]
  | cell s => [cell s]
  | «at» s i => i.post ++ [«at» s i]
  | un k a => a.post ++ [un k a]
  | bin k a b => a.post ++ b.post ++ [bin k a b]
def posts (l : List Ex) : List Ex := l.flatMap Ex.post
theorem post_ops (e : Ex) : e.post = posts e.ops ++ [e] := by
  cases e <;> simp [Ex.post, Ex.ops, posts]
theorem post_len : ∀ (e : Ex) (k : Nat), e.depth ≤ k → e.post.length < 2 ^ k := by
  intro e
  induction e with
  | num n => intro k h; exact Nat.one_lt_two_pow (by have : 1 ≤ k := h; omega)
  | cell n => intro k h; exact Nat.one_lt_two_pow (by have : 1 ≤ k := h; omega)
  | «at» s i ih =>
    intro k h
    have h : 1 + i.depth ≤ k := h
    obtain ⟨k, rfl⟩ : ∃ j, k = j + 1 := ⟨k - 1, by omega⟩
    have := ih k (by omega)
    show (i.post ++ [_]).length < _
    rw [List.length_append, Nat.pow_succ]
    show i.post.length + 1 < _
    omega
  | un s i ih =>
    intro k h
    have h : 1 + i.depth ≤ k := h
    obtain ⟨k, rfl⟩ : ∃ j, k = j + 1 := ⟨k - 1, by omega⟩
    have := ih k (by omega)
    show (i.post ++ [_]).length < _
    rw [List.length_append, Nat.pow_succ]
    show i.post.length + 1 < _
    omega
  | bin s a b iha ihb =>
    intro k h
    have h : 1 + max a.depth b.depth ≤ k := h
    obtain ⟨k, rfl⟩ : ∃ j, k = j + 1 := ⟨k - 1, by omega⟩
    have h1 := iha k (by omega)
    have h2 := ihb k (by omega)
    show (a.post ++ b.post ++ [_]).length < _
    rw [List.length_append, List.length_append, Nat.pow_succ]
    show a.post.length + b.post.length + 1 < _
    omega
theorem posts_pos (l : List Ex) : l.length ≤ (posts l).length := by
  induction l with
  | nil => exact Nat.zero_le _
  | cons a r ih =>
    have e : posts (a :: r) = a.post ++ posts r := rfl
    rw [e, List.length_append, post_ops, List.length_append]
    show r.length + 1 ≤ _ + 1 + _
    omega
/-- the sign of a node is none of the three kinds -/
theorem un_kind {k : Str} (h : k ∈ UNS ∨ k ∈ BINS) : k ≠ "num" ∧ k ≠ "cell" ∧ k ≠ "at" := by
  have : ∀ k ∈ UNS ++ BINS, k ≠ "num" ∧ k ≠ "cell" ∧ k ≠ "at" := by decide +kernel
  exact this k (List.mem_append.mpr h)
theorem exw_ops {g : Env} {e : Ex} (h : ExW g e) : ∀ f ∈ e.ops, ExW g f := by
  cases e with
  | num n => intro f m; cases m
  | cell n => intro f m; cases m
  | «at» s i => intro f m; rw [List.mem_singleton.mp m]; exact h.2
  | un s i => intro f m; rw [List.mem_singleton.mp m]; exact h.2
  | bin s a b =>
    intro f m
    simp only [Ex.ops, List.mem_cons, List.mem_nil_iff, or_false] at m
    rcases m with rfl | rfl
    · exact h.2.1
    · exact h.2.2
theorem last_at' {α : Type} (xs : List α) (x : α) : (xs ++ [x])[(xs ++ [x]).length - 1]? = some x := by simp
theorem dps_rev {K : PySem.W.Frag} {H : Hp} {vs : List V} {ds : List PyData} (h : DpAll K H vs ds) : DpAll K H vs.reverse ds.reverse := by
  have l := dps_len h
  refine dps_of (by rw [List.length_reverse, List.length_reverse, l]) fun i v d h1 h2 => ?_
  have hi := (List.getElem?_eq_some_iff.mp h1).1
  rw [List.length_reverse] at hi
  rw [List.getElem?_reverse hi] at h1
  rw [List.getElem?_reverse (by omega), ← l] at h2
  obtain ⟨v', e1, e2⟩ := dp_at h h2
  rw [h1] at e1
  cases e1
  exact e2
theorem dps_snoc' {K : PySem.W.Frag} {H : Hp} {d : PyData} : ∀ {ds : List PyData} {vs : List V}, DpAll K H vs (ds ++ [d]) → ∃ ws w, vs = ws ++ [w] ∧ DpAll K H ws ds ∧ Dp K H w d
  | [], vs, h => by
    obtain ⟨v, r, rfl, h1, h2⟩ := dp1 h
    cases dp0 h2
    exact ⟨[], v, rfl, .nil, h1⟩
  | a :: r, vs, h => by
    obtain ⟨v, s, rfl, h1, h2⟩ := dp1 h
    obtain ⟨ws, w, rfl, h3, h4⟩ := dps_snoc' h2
    exact ⟨v :: ws, w, rfl, .cons h1 h3, h4⟩
section
variable {P : Program} {w : World} {K : PySem.W.Frag} {mg : Str → Option Value} {base : Heap}
def sp__operands (K : PySem.W.Frag) : Sp := fun vs H Q _ => ∃ (g : Env) (v : V) (x : Ex) (H0 : Hp), vs = [v] ∧ Same H0 H ∧ Dp K H0 v x.d ∧ ExW g x ∧
  ∀ (L : Addr) (ws : List V) (H' : Hp), Same H H' → H L = none → H' L = some (.lst ws) → DpAll K H0 ws (x.ops.map Ex.d) → Q (.ref L) H'
theorem ok__operands (T : Top K mg) : FnOk P w K mg base CX0 1 T.a__operands T.d__operands ["e"]  (sp__operands K) := by
  refine T.F__operands.ok sc__operands (fun vs H Q E h => ?_) (fun cdv A outer s H vs Q E hr h => ?_)
  · obtain ⟨_, _, _, _, rfl, _⟩ := h
    rfl
  · obtain ⟨g, v, x, H0, rfl, s0, dv, ew, q⟩ := h
    refine ⟨_, (pss_cons (ps_set (i := 1) sc__operands.nd rfl (by first | exact Or.inl rfl | exact Or.inr rfl) (pe_ix ix_tup (pv 0) pe_int (fun _ _ => rfl)))
  (pss_cons (ps_if (pw_or (pt_cmpR op_eq (pv 1) pe_str (nomark _)) (pw_or1 (pt_cmpR op_eq (pv 1) pe_str (nomark _)))).pt
  (pss_one (ps_ret (pe_lst pa_nil)))
  pss_nil)
  (pss_cons (ps_if (pt_cmpR op_eq (pv 1) pe_str (nomark _))
  (pss_one (ps_ret (pe_lst (pa_cons (pe_ix ix_tup (pv 0) pe_int (fun _ _ => rfl)) pa_nil))))
  pss_nil)
  (pss_one (ps_ret (pe_callTy call_list_of (by rfl) T.m_list (by decide +kernel) (pa_cons (pe_slice sl_tup (pv 0) (po_some pe_int) po_none) pa_nil))))))), ?_⟩
    rw [show ∀ a0 : V, L2.start ["e", "kind"] [a0] = [some a0, none] from fun _ => rfl]
    cases x with
    | num n =>
      obtain ⟨t, xs, rfl, hx, ha⟩ := dpT dv
      obtain ⟨v0, x0, rfl, d0, ha⟩ := dp1 ha
      obtain ⟨v1, x0, rfl, d1, ha⟩ := dp1 ha
      cases dp0 ha; cases dpS d0
      have hx' := Same.seqT s0 hx
      walk_at "my rn"
      refine Rd.ifD (fun _ => ?_) fun z => absurd rfl z
      rw [if_pos rfl]
      walk_at "my rn"
      intro L H1 nL s1 hL
      exact q L _ H1 s1 nL hL .nil
    | cell s =>
      obtain ⟨t, xs, rfl, hx, ha⟩ := dpT dv
      obtain ⟨v0, x0, rfl, d0, ha⟩ := dp1 ha
      obtain ⟨v1, x0, rfl, d1, ha⟩ := dp1 ha
      cases dp0 ha; cases dpS d0
      have hx' := Same.seqT s0 hx
      walk_at "my rn"
      refine Rd.ifD (fun z => absurd (V.str.inj z) (by decide +kernel)) fun _ => ?_
      walk_at "my rn"
      refine Rd.ifD (fun _ => ?_) fun z => absurd rfl z
      walk_at "my rn"
      intro L H1 nL s1 hL
      exact q L _ H1 s1 nL hL .nil
    | «at» s i =>
      obtain ⟨t, xs, rfl, hx, ha⟩ := dpT dv
      obtain ⟨v0, x0, rfl, d0, ha⟩ := dp1 ha
      obtain ⟨v1, x0, rfl, d1, ha⟩ := dp1 ha
      obtain ⟨v2, x0, rfl, d2, ha⟩ := dp1 ha
      cases dp0 ha; cases dpS d0
      have hx' := Same.seqT s0 hx
      walk_at "my rn"
      refine Rd.ifD (fun z => absurd (V.str.inj z) (by decide +kernel)) fun _ => ?_
      walk_at "my rn"
      refine Rd.ifD (fun z => absurd (V.str.inj z) (by decide +kernel)) fun _ => ?_
      walk_at "my rn"
      refine Rd.ifD (fun _ => ?_) fun z => absurd rfl z
      walk_at "my rn"
      intro L H1 nL s1 hL
      exact q L _ H1 s1 nL hL (.cons d2 .nil)
    | un k a =>
      obtain ⟨n1, n2, n3⟩ := un_kind (.inl ew.1)
      obtain ⟨t, xs, rfl, hx, ha⟩ := dpT dv
      obtain ⟨v0, x0, rfl, d0, ha⟩ := dp1 ha
      obtain ⟨v1, x0, rfl, d1, ha⟩ := dp1 ha
      cases dp0 ha; cases dpS d0
      have hx' := Same.seqT s0 hx
      walk_at "my rn"
      refine Rd.ifD (fun z => absurd (V.str.inj z) n1) fun _ => ?_
      walk_at "my rn"
      refine Rd.ifD (fun z => absurd (V.str.inj z) n2) fun _ => ?_
      walk_at "my rn"
      refine Rd.ifD (fun z => absurd (V.str.inj z) n3) fun _ => ?_
      walk_at "my rn"
      refine ⟨t, _, rfl, hx', fun z => absurd z.1 (by show ¬ HT.sIx 2 0 (some 1) = 0; decide), fun p np => ?_⟩
      have s1 := same_new (o := .tup (cutV [.str k, v1] (some 1) none)) np
      walk_at "my rn"
      refine ⟨p, _, rfl, .inr (SqT.of upd_same), fun L nL => ?_⟩
      exact q L _ _ (s1.trans (same_new nL)) (s1.free nL) upd_same (.cons d1 .nil)
    | bin k a b =>
      obtain ⟨n1, n2, n3⟩ := un_kind (.inr ew.1)
      obtain ⟨t, xs, rfl, hx, ha⟩ := dpT dv
      obtain ⟨v0, x0, rfl, d0, ha⟩ := dp1 ha
      obtain ⟨v1, x0, rfl, d1, ha⟩ := dp1 ha
      obtain ⟨v2, x0, rfl, d2, ha⟩ := dp1 ha
      cases dp0 ha; cases dpS d0
      have hx' := Same.seqT s0 hx
      walk_at "my rn"
      refine Rd.ifD (fun z => absurd (V.str.inj z) n1) fun _ => ?_
      walk_at "my rn"
      refine Rd.ifD (fun z => absurd (V.str.inj z) n2) fun _ => ?_
      walk_at "my rn"
      refine Rd.ifD (fun z => absurd (V.str.inj z) n3) fun _ => ?_
      walk_at "my rn"
      refine ⟨t, _, rfl, hx', fun z => absurd z.1 (by show ¬ HT.sIx 3 0 (some 1) = 0; decide), fun p np => ?_⟩
      have s1 := same_new (o := .tup (cutV [.str k, v1, v2] (some 1) none)) np
      walk_at "my rn"
      refine ⟨p, _, rfl, .inr (SqT.of upd_same), fun L nL => ?_⟩
      exact q L _ _ (s1.trans (same_new nL)) (s1.free nL) upd_same (.cons d1 (.cons d2 .nil))
def sp_parts (K : PySem.W.Frag) : Sp := fun vs H Q _ => ∃ (g : Env) (v : V) (x : Ex) (H0 : Hp), vs = [v] ∧ Same H0 H ∧ Dp K H0 v x.d ∧ ExW g x ∧ x.depth ≤ 8 ∧
  ∀ (L : Addr) (ws : List V) (H' : Hp), Same H H' → H L = none → H' L = some (.lst ws) → DpAll K H0 ws (x.post.map Ex.d) → Q (.ref L) H'
theorem ok_parts (T : Top K mg) : FnOk P w K mg base CX0 2 T.a_parts T.d_parts ["e"]  (sp_parts K) := by
  refine T.F_parts.ok sc_parts (fun vs H Q E h => ?_) (fun cdv A outer s H vs Q E hr h => ?_)
  · obtain ⟨_, _, _, _, rfl, _⟩ := h
    rfl
  · obtain ⟨g, v, x, H0, rfl, s0, dv, ew, dx, q⟩ := h
    refine ⟨_, (pss_cons (ps_set (i := 1) sc_parts.nd rfl (by first | exact Or.inl rfl | exact Or.inr rfl) (pe_lst pa_nil))
  (pss_cons (ps_set (i := 2) sc_parts.nd rfl (by first | exact Or.inl rfl | exact Or.inr rfl) (pe_lst (pa_cons (pv 0) pa_nil)))
  (pss_cons (ps_while PassesOwn.never (pt_truth (pv 2) (by intro _; rfl))
  (pss_cons (ps_set (i := 3) sc_parts.nd rfl (by first | exact Or.inl rfl | exact Or.inr rfl) (pe_bm0 PySem.F.plainAttrs_list PySem.F.slot_list_pop PySem.F.type_list_pop mt_pop (pv 2)))
  (pss_cons (ps_expr (pe_bm PySem.F.plainAttrs_list PySem.F.slot_list_append PySem.F.type_list_append mt_append (pv 1) (pa_cons (pv 3) pa_nil)))
  (pss_one (ps_expr (pe_bm PySem.F.plainAttrs_list PySem.F.slot_list_extend PySem.F.type_list_extend mt_extend (pv 2) (pa_cons (pe_call (ok__operands T) (hr.mono (by decide)) (by rfl) T.g__operands T.F__operands.kp T.b__operands .nil pass0 (pa_cons (pv 3) pa_nil)) pa_nil)))))))
  (pss_one (ps_ret (pe_revL (pv 1))))))), ?_⟩
    rw [show ∀ a0 : V, L2.start ["e", "found", "waiting", "part"] [a0] = [some a0, none, none, none] from fun _ => rfl]
    walk_at "my rn"
    intro F H1 nF s1 hF
    walk_at "my rn"
    intro W H2 nW s2 hW
    walk_at "my rn"
    refine ⟨fun m σ H' => ∃ (fs ws : List V) (fd wd : List Ex) (y3 : Option V), m = (posts wd).length ∧ σ = [some v, some (.ref F), some (.ref W), y3] ∧ Same H H' ∧ H' F = some (.lst fs) ∧ H' W = some (.lst ws) ∧
      DpAll K H0 fs (fd.map Ex.d) ∧ DpAll K H0 ws (wd.map Ex.d) ∧ (∀ e ∈ wd, ExW g e) ∧ posts wd ++ fd.reverse = x.post, ⟨_, [], [v], [], [x], none, rfl, rfl, s1.trans s2, s2 _ _ hF, hW, .nil, .cons dv .nil, fun e m => by rw [List.mem_singleton.mp m]; exact ew, by simp [posts]⟩, ?_⟩
    rintro m σ H' ⟨fs, ws, fd, wd, y3, rfl, rfl, s4, hF4, hW4, a1, a2, gw, ee⟩
    have FW : F ≠ W := fun z => by rw [← z, hF] at nW; cases nW
    have nWH : H W = none := s1.free nW
    have lw : ws.length = wd.length := by rw [dps_len a2, List.length_map]
    have lf : fs.length = fd.length := by rw [dps_len a1, List.length_map]
    have tot := congrArg List.length ee
    rw [List.length_append, List.length_reverse] at tot
    have lx := post_len x 8 dx
    have lx2 : (2 : Nat) ^ 8 = 256 := rfl
    have lwd := posts_pos wd
    walk_at "my rn"
    rcases List.eq_nil_or_concat wd with rfl | ⟨wd0, e, rfl⟩
    · have e0 : ws = [] := List.eq_nil_of_length_eq_zero lw
      subst e0
      refine ⟨false, .inl ⟨[], SqL.of hW4, rfl⟩, Rd.ifF ?_⟩
      walk_at "my rn"
      intro L H5 nL s5 hL
      refine q L _ H5 (s4.trans s5) (s4.free nL) hL ?_
      rw [show posts [] = [] from rfl, List.nil_append] at ee
      rw [← ee, List.map_reverse]
      exact dps_rev a1
    · obtain ⟨ws0, we, rfl, a2, de⟩ := dps_snoc' (by rw [List.concat_eq_append, List.map_append] at a2; exact a2)
      have ec : wd0.concat e = wd0 ++ [e] := List.concat_eq_append
      rw [ec] at gw ee tot lwd lw ⊢
      have epost : posts (wd0 ++ [e]) = posts wd0 ++ (posts e.ops ++ [e]) := by
        unfold posts
        rw [List.flatMap_append]
        show _ ++ (e.post ++ []) = _
        rw [List.append_nil, post_ops]; rfl
      have eops : posts (wd0 ++ e.ops) = posts wd0 ++ posts e.ops := List.flatMap_append
      have l1 := congrArg List.length epost
      have l2 := congrArg List.length eops
      simp only [List.length_append, List.length_cons, List.length_nil] at l1 l2 lw lwd tot
      have l3 := posts_pos e.ops
      refine ⟨true, .inl ⟨_, SqL.of hW4, by simp⟩, Rd.ifT ⟨fun σ' H' => ∃ (fs ws : List V) (fd wd : List Ex) (y3 : Option V), (posts wd).length < (posts (wd0 ++ [e])).length ∧ σ' = [some v, some (.ref F), some (.ref W), y3] ∧ Same H H' ∧ H' F = some (.lst fs) ∧ H' W = some (.lst ws) ∧
        DpAll K H0 fs (fd.map Ex.d) ∧ DpAll K H0 ws (wd.map Ex.d) ∧ (∀ e ∈ wd, ExW g e) ∧ posts wd ++ fd.reverse = x.post, fun σ' H' ⟨fs, ws, fd, wd, y3, a, b⟩ => ⟨_, a, fs, ws, fd, wd, y3, rfl, b⟩, ?_⟩⟩
      walk_at "my rn"
      refine Rd.popI hW4 (last_at' _ _) ?_
      rw [List.dropLast_concat]
      obtain ⟨H5, e5⟩ : ∃ H5, H5 = upd H' W (.lst ws0) := ⟨_, rfl⟩
      have hW5 : H5 W = some (.lst ws0) := by rw [e5]; exact upd_same
      have hF5 : H5 F = some (.lst fs) := by rw [e5, upd_ne FW]; exact hF4
      have s5 : Same H H5 := fun a o z => by rw [e5, upd_ne (fun y => by rw [y, nWH] at z; cases z)]; exact s4 a o z
      rw [← e5]
      walk_at "my rn"
      refine Rd.app hF5 (Rd.szl (by omega)) ?_
      obtain ⟨H6, e6⟩ : ∃ H6, H6 = upd H5 F (.lst (fs ++ [we])) := ⟨_, rfl⟩
      have hF6 : H6 F = some (.lst (fs ++ [we])) := by rw [e6]; exact upd_same
      have hW6 : H6 W = some (.lst ws0) := by rw [e6, upd_ne FW.symm]; exact hW5
      have s6 : Same H H6 := fun a o z => by rw [e6, upd_ne (fun y => by rw [y, nF] at z; cases z)]; exact s5 a o z
      rw [← e6]
      have gwe := gw e (by simp)
      walk_at "my rn"
      refine ⟨g, we, e, H0, rfl, s0.trans s6, de, gwe, fun L7 ks H7 s7 nL7 hL7 ak => ?_⟩
      have lk : ks.length = e.ops.length := by rw [dps_len ak, List.length_map]
      walk_at "my rn"
      refine Rd.ext (s7 _ _ hW6) hL7 (by omega) ?_
      have s7' := s6.trans s7
      refine ⟨fs ++ [we], ws0 ++ ks, fd ++ [e], wd0 ++ e.ops, _, by omega, rfl, fun a o z => by rw [upd_ne (fun y => by rw [y, nWH] at z; cases z)]; exact s7' a o z, by rw [upd_ne FW]; exact s7 _ _ hF6, upd_same, ?_, ?_, fun f mf => ?_, ?_⟩
      · rw [List.map_append]; exact dps_app a1 (.cons de .nil)
      · rw [List.map_append]; exact dps_app a2 ak
      · rcases List.mem_append.mp mf with mf | mf
        · exact gw f (List.mem_append.mpr (.inl mf))
        · exact exw_ops gwe f mf
      · rw [eops, List.reverse_append, ← ee, epost]
        simp
end

end Mine

set_option Elab.async false
set_option linter.all false
set_option maxRecDepth 100000
set_option maxHeartbeats 1000000


--@@rec _law_expr _law_value
--@@guardsys
namespace Mine
open PySem PySem.Spec PyProof.Rows L2
local macro_rules | `(tactic| walk_at "my rn") => `(tactic| (repeat (first | with_reducible refine Rd.catQI ?_ | with_reducible refine Rd.revN ?_ | with_reducible refine Rd.lzip ?_ | with_reducible refine Rd.fld ?_ | with_reducible refine Rd.sfld ?_ | with_reducible refine Rd.meth ?_ | with_reducible refine Rd.make ?_ | with_reducible refine Rd.izip ?_ | with_reducible refine Rd.ckw ?_ | with_reducible refine Rd.dsetd ?_ | with_reducible refine Rd.ddel ?_ | with_reducible refine Rd.disp ?_ | with_reducible refine Rd.pcons ?_ | with_reducible refine Rd.pnil ?_ | with_reducible refine Rd.dsp ?_ | with_reducible refine Rd.dnew ?_ | with_reducible refine Rd.din ?_ | with_reducible refine Rd.dnot ?_ | with_reducible refine Rd.dget ?_ | with_reducible refine Rd.dget2 ?_ | with_reducible refine Rd.dput ?_ | with_reducible refine Rd.cbDictOf ?_ | with_reducible refine Rd.iitems ?_ | with_reducible refine Rd.ikeys ?_ | with_reducible refine Rd.dc ?_ | with_reducible refine Rd.nwD ?_ | with_reducible refine Rd.tupN ?_ | with_reducible refine Rd.lstN ?_ | with_reducible refine Rd.cbListOf ?_ | with_reducible refine Rd.cbListOfR ?_ | with_reducible refine Rd.catI ?_ | with_reducible refine Rd.slN ?_ | with_reducible refine Rd.cbSrtI ?_ | with_reducible refine Rd.seq ?_ | with_reducible refine Rd.next ?_ | with_reducible refine Rd.brk ?_ | with_reducible refine Rd.cont ?_ | with_reducible refine Rd.asg ?_ | with_reducible refine Rd.ret ?_ | with_reducible refine Rd.retN ?_ | with_reducible refine Rd.drop ?_ | with_reducible refine Rd.ifs ?_ | with_reducible refine Rd.ife ?_ | with_reducible refine Rd.test ?_ | with_reducible refine Rd.tb_ ?_ | with_reducible refine Rd.bl ?_ | with_reducible refine Rd.bl2 ?_ | with_reducible refine Rd.and_ ?_ | with_reducible refine Rd.or_ ?_ | with_reducible refine Rd.not_ ?_ | with_reducible refine Rd.andV ?_ | with_reducible refine Rd.orV ?_ | with_reducible refine Rd.notV ?_ | with_reducible refine Rd.op ?_ | with_reducible refine Rd.un ?_ | with_reducible refine Rd.I0 ?_ | with_reducible refine Rd.U ?_ | with_reducible refine Rd.ip ?_ | with_reducible refine Rd.c_ ?_ | with_reducible refine Rd.nil ?_ | with_reducible refine Rd.cons ?_ | with_reducible refine Rd.call ?_ | with_reducible refine Rd.cb ?_ | with_reducible refine Rd.bm ?_ | with_reducible refine Rd.bm0 ?_ | with_reducible refine Rd.nopart ?_ | with_reducible refine Rd.part ?_ | with_reducible refine Rd.int1 ?_ | with_reducible refine Rd.ints1 ?_ | with_reducible refine Rd.ints2 ?_ | with_reducible refine Rd.gcons ?_ | with_reducible refine Rd.gnil ?_ | with_reducible refine Rd.sub ?_ | with_reducible refine Rd.isN ?_ | with_reducible refine Rd.chain ?_ | with_reducible refine Rd.rf ?_ | with_reducible refine Rd.tyS ?_ | with_reducible refine Rd.intI ?_ | with_reducible refine Rd.lc ?_ | with_reducible refine Rd.for_ ?_ | with_reducible refine Rd.ilist ?_ | with_reducible refine Rd.itup ?_ | with_reducible refine Rd.irng1 ?_ | with_reducible refine Rd.irng2 ?_ | with_reducible refine Rd.ienum ?_ | with_reducible refine Rd.istr ?_ | with_reducible refine Rd.refA ?_ | with_reducible refine Rd.strA ?_ | with_reducible refine Rd.yes ?_ | with_reducible refine Rd.ifT ?_ | with_reducible refine Rd.ifF ?_ | with_reducible refine Rd.ifnT ?_ | with_reducible refine Rd.ifnF ?_ | with_reducible refine Rd.isi_ii ?_ | with_reducible refine Rd.isi_ib ?_ | with_reducible refine Rd.isi_is ?_ | with_reducible refine Rd.isi_il ?_ | with_reducible refine Rd.isi_it ?_ | with_reducible refine Rd.isi_id ?_ | with_reducible refine Rd.isi_bi ?_ | with_reducible refine Rd.isi_bb ?_ | with_reducible refine Rd.isi_bs ?_ | with_reducible refine Rd.isi_bl ?_ | with_reducible refine Rd.isi_bt ?_ | with_reducible refine Rd.isi_bd ?_ | with_reducible refine Rd.isi_si ?_ | with_reducible refine Rd.isi_sb ?_ | with_reducible refine Rd.isi_ss ?_ | with_reducible refine Rd.isi_sl ?_ | with_reducible refine Rd.isi_st ?_ | with_reducible refine Rd.isi_sd ?_ | with_reducible refine Rd.isi_ni ?_ | with_reducible refine Rd.isi_nb ?_ | with_reducible refine Rd.isi_ns ?_ | with_reducible refine Rd.isi_nl ?_ | with_reducible refine Rd.isi_nt ?_ | with_reducible refine Rd.isi_nd ?_ | with_reducible refine Rd.sl ?_ | with_reducible refine Rd.v0 ?_ | with_reducible refine Rd.v1 ?_ | with_reducible refine Rd.v2 ?_ | with_reducible refine Rd.v3 ?_ | with_reducible refine Rd.v4 ?_ | with_reducible refine Rd.v5 ?_ | with_reducible refine Rd.v6 ?_ | with_reducible refine Rd.v7 ?_ | with_reducible refine Rd.v8 ?_ | with_reducible refine Rd.v9 ?_ | with_reducible refine Rd.v10 ?_ | with_reducible refine Rd.v11 ?_ | with_reducible refine Rd.v12 ?_ | with_reducible refine Rd.v13 ?_ | with_reducible refine Rd.v14 ?_ | with_reducible refine Rd.v15 ?_ | with_reducible refine Rd.n0 ?_ | with_reducible refine Rd.n1 ?_ | with_reducible refine Rd.n2 ?_ | with_reducible refine Rd.n3 ?_ | with_reducible refine Rd.n4 ?_ | with_reducible refine Rd.n5 ?_ | with_reducible refine Rd.n6 ?_ | with_reducible refine Rd.n7 ?_ | with_reducible refine Rd.n8 ?_ | with_reducible refine Rd.n9 ?_ | with_reducible refine Rd.n10 ?_ | with_reducible refine Rd.n11 ?_ | with_reducible refine Rd.n12 ?_ | with_reducible refine Rd.n13 ?_ | with_reducible refine Rd.n14 ?_ | with_reducible refine Rd.n15 ?_ | with_reducible refine Rd.g0 ?_ | with_reducible refine Rd.g1 ?_ | with_reducible refine Rd.g2 ?_ | with_reducible refine Rd.g3 ?_ | with_reducible refine Rd.g4 ?_ | with_reducible refine Rd.g5 ?_ | with_reducible refine Rd.g6 ?_ | with_reducible refine Rd.g7 ?_ | with_reducible refine Rd.g8 ?_ | with_reducible refine Rd.g9 ?_ | with_reducible refine Rd.g10 ?_ | with_reducible refine Rd.g11 ?_ | with_reducible refine Rd.g12 ?_ | with_reducible refine Rd.g13 ?_ | with_reducible refine Rd.g14 ?_ | with_reducible refine Rd.g15 ?_ | ((with_reducible apply Rd.glst); (first | assumption | exact upd_same); exact rfl) | ((with_reducible apply Rd.gtP); assumption; assumption) | ((with_reducible apply Rd.revq); first | assumption | exact SqL.of (by assumption)) | ((with_reducible apply Rd.fldI); (first | assumption | exact upd_same); assumption; assumption; (first | assumption | with_unfolding_all rfl)) | ((with_reducible apply Rd.methI); (first | assumption | exact upd_same); (first | assumption | with_unfolding_all rfl)) | ((with_reducible apply Rd.sfldI); (first | assumption | exact upd_same); assumption; assumption; exact Nat.le_of_ble_eq_true rfl) | ((with_reducible apply Rd.maxL); assumption) | ((with_reducible apply Rd.anyL); assumption) | ((with_reducible apply Rd.sumL); assumption) | ((with_reducible refine Rd.izI (by assumption) (by assumption) ?_)) | ((with_reducible refine Rd.eq ?_ ?_); exact rfl) | ((with_reducible refine Rd.ne ?_ ?_); exact rfl) | ((with_reducible refine Rd.szA ?_ ?_); exact Nat.le_of_ble_eq_true rfl) | ((with_reducible refine Rd.I ?_ ?_); first | assumption | decide | exact Or.inr (by decide +kernel) | exact Or.inl (by decide +kernel) | exact ⟨by decide, by decide⟩ | exact ⟨by decide, by decide, by decide⟩ | omega) | ((with_reducible apply Rd.tyL); first | assumption | exact upd_same) | ((with_reducible apply Rd.tyLq); assumption) | ((with_reducible apply Rd.ixL); (first | assumption | exact upd_same); exact rfl) | ((with_reducible apply Rd.ixT); (first | assumption | exact upd_same); exact rfl) | ((with_reducible apply Rd.ixLq); assumption; exact rfl) | ((with_reducible apply Rd.ixTq); assumption; exact rfl) | ((with_reducible apply Rd.gtup); (first | assumption | exact upd_same); exact rfl) | ((with_reducible apply Rd.gtupq); assumption; exact rfl) | ((with_reducible apply Rd.sqAq); assumption) | ((with_reducible apply Rd.stAq); assumption) | ((with_reducible apply Rd.enAq); assumption) | ((with_reducible apply Rd.lenLq); assumption) | ((with_reducible apply Rd.lenTq); assumption) | ((with_reducible apply Rd.sqA); first | assumption | exact upd_same) | ((with_reducible apply Rd.stA); first | assumption | exact upd_same) | ((with_reducible apply Rd.enA); first | assumption | exact upd_same) | ((with_reducible apply Rd.lenL); first | assumption | exact upd_same) | ((with_reducible apply Rd.lenT); first | assumption | exact upd_same) | ((with_reducible refine Rd.nwT ?_ ?_); exact Nat.le_of_ble_eq_true rfl) | ((with_reducible refine Rd.nwL ?_ ?_); exact Nat.le_of_ble_eq_true rfl) | ((with_reducible apply Rd.isd); assumption) | ((with_reducible apply Rd.dictOf); assumption) | ((with_reducible refine Rd.isi_dd (by assumption) ?_)) | ((with_reducible apply Rd.itA); first | assumption | exact upd_same) | ((with_reducible apply Rd.ikA); first | assumption | exact upd_same) | ((with_reducible apply Rd.listOf); assumption) | ((with_reducible apply Rd.listOfq); assumption) | ((with_reducible apply Rd.slo); assumption) | ((with_reducible apply Rd.slq); assumption) | ((with_reducible apply Rd.srtI); assumption) | ((with_reducible apply Rd.srtIo); assumption) | ((with_reducible refine Rd.isi_li (by assumption) ?_)) | ((with_reducible refine Rd.isi_lb (by assumption) ?_)) | ((with_reducible refine Rd.isi_ls (by assumption) ?_)) | ((with_reducible refine Rd.isi_ll (by assumption) ?_)) | ((with_reducible refine Rd.isi_lt (by assumption) ?_)) | ((with_reducible refine Rd.isi_ld (by assumption) ?_)) | ((with_reducible refine Rd.isi_ti (by assumption) ?_)) | ((with_reducible refine Rd.isi_tb (by assumption) ?_)) | ((with_reducible refine Rd.isi_ts (by assumption) ?_)) | ((with_reducible refine Rd.isi_tl (by assumption) ?_)) | ((with_reducible refine Rd.isi_tt (by assumption) ?_)) | ((with_reducible refine Rd.isi_td (by assumption) ?_)))))







/-! ### the value of an expression -/
inductive Run : List Ex → List Ex → List Ex → Prop
  | nil (st : List Ex) : Run st [] st
  | cons {st0 : List Ex} {p : Ex} {r fin : List Ex} : Run (st0 ++ [p]) r fin → Run (st0 ++ p.ops) (p :: r) fin
theorem Run.inv {st : List Ex} {p : Ex} {r fin : List Ex} (h : Run st (p :: r) fin) : ∃ st0, st = st0 ++ p.ops ∧ Run (st0 ++ [p]) r fin := by
  cases h with
  | cons h => exact ⟨_, rfl, h⟩
theorem Run.fin {st fin : List Ex} (h : Run st [] fin) : st = fin := by cases h; rfl
theorem run_post : ∀ (e : Ex) (st r fin : List Ex), Run (st ++ [e]) r fin → Run st (e.post ++ r) fin := by
  intro e
  induction e with
  | num n => intro st r fin h; have := Run.cons (p := Ex.num n) h; rw [show (Ex.num n).ops = [] from rfl, List.append_nil] at this; exact this
  | cell n => intro st r fin h; have := Run.cons (p := Ex.cell n) h; rw [show (Ex.cell n).ops = [] from rfl, List.append_nil] at this; exact this
  | «at» s i ih =>
    intro st r fin h
    show Run st ((i.post ++ [_]) ++ r) fin
    rw [List.append_assoc]
    exact ih _ _ _ (Run.cons (p := Ex.at s i) h)
  | un s i ih =>
    intro st r fin h
    show Run st ((i.post ++ [_]) ++ r) fin
    rw [List.append_assoc]
    exact ih _ _ _ (Run.cons (p := Ex.un s i) h)
  | bin s a b iha ihb =>
    intro st r fin h
    show Run st ((a.post ++ b.post ++ [_]) ++ r) fin
    rw [List.append_assoc, List.append_assoc]
    refine iha _ _ _ (ihb _ _ _ ?_)
    rw [List.append_assoc]
    exact Run.cons (p := Ex.bin s a b) h
theorem exw_post {g : Env} : ∀ {e : Ex}, ExW g e → ∀ f ∈ e.post, ExW g f := by
  intro e
  induction e with
  | num n => intro h f m; rw [List.mem_singleton.mp m]; exact h
  | cell n => intro h f m; rw [List.mem_singleton.mp m]; exact h
  | «at» s i ih =>
    intro h f m
    rcases List.mem_append.mp m with m | m
    · exact ih h.2 f m
    · rw [List.mem_singleton.mp m]; exact h
  | un s i ih =>
    intro h f m
    rcases List.mem_append.mp m with m | m
    · exact ih h.2 f m
    · rw [List.mem_singleton.mp m]; exact h
  | bin s a b iha ihb =>
    intro h f m
    rcases List.mem_append.mp m with m | m
    · rcases List.mem_append.mp m with m | m
      · exact iha h.2.1 f m
      · exact ihb h.2.2 f m
    · rw [List.mem_singleton.mp m]; exact h
def ev (ρ : Str → List Int) : Ex → Int
  | .num n => n
  | .cell s => (ρ s).getD 0 0
  | .at s i => (ρ s).getD (ev ρ i % ((ρ s).length : Int)).toNat 0
  | .un k a => alt k (ev ρ a)
  | .bin k a b => comb k (ev ρ a) (ev ρ b)
/-- the cells of the names -/
structure NmAt (H : Hp) (N : Addr) (g : Env) (ρ : Str → List Int) : Prop where
  ex : ∃ m, H N = some (Rd.DS m) ∧ ∀ s z, (s, z) ∈ g.cells → ∃ a, Rd.lks m s = some (.ref a) ∧ H a = some (.lst ((ρ s).map V.int))
  ne : ∀ s z, (s, z) ∈ g.cells → ρ s ≠ [] ∧ (ρ s).length ≤ 100 ∧ ∀ w ∈ ρ s, Word w
  nv : g.vars = []
theorem NmAt.same {H H' : Hp} {N : Addr} {g : Env} {ρ : Str → List Int} (h : NmAt H N g ρ) (s : Same H H') : NmAt H' N g ρ := by
  obtain ⟨⟨m, a, b⟩, c, d⟩ := h
  refine ⟨⟨m, s _ _ a, fun t z e => ?_⟩, c, d⟩
  obtain ⟨x, e1, e2⟩ := b t z e
  exact ⟨x, e1, s _ _ e2⟩
theorem getD_word {l : List Int} {k : Nat} (h : k < l.length) (w : ∀ x ∈ l, Word x) : l[k]? = some (l.getD k 0) ∧ Word (l.getD k 0) := by
  have e : l[k]? = some l[k] := List.getElem?_eq_getElem h
  rw [List.getD_eq_getElem?_getD, e]
  exact ⟨rfl, w _ (List.getElem_mem h)⟩
theorem nat_word {n : Nat} (h : n < 2 ^ 32) : Word (n : Int) := by
  have e : (2 : Nat) ^ 32 = 4294967296 := rfl
  constructor <;> omega
theorem mod_word (n : Int) : Word (n % 4294967296) := ⟨Int.emod_nonneg _ (by decide), Int.emod_lt_of_pos _ (by decide)⟩
theorem and_word {a b : Int} (wa : Word a) (wb : Word b) : 0 ≤ Builtin.bitAnd a b ∧ Builtin.bitAnd a b ≤ a ∧ Builtin.bitAnd a b ≤ b := by
  have p := bitAnd_pp wa.1 wb.1
  have h1 : a.toNat &&& b.toNat ≤ a.toNat := Nat.and_le_left
  have h2 : a.toNat &&& b.toNat ≤ b.toNat := Nat.and_le_right
  have := wa.1
  have := wb.1
  omega
theorem or_word {a b : Int} (wa : Word a) (wb : Word b) : Word (Builtin.bitOr a b) := by
  rw [bitOr_nn wa.1 wb.1]
  have := wa.1
  have := wb.1
  have := wa.2
  have := wb.2
  exact nat_word (Nat.or_lt_two_pow (by show a.toNat < 4294967296; omega) (by show b.toNat < 4294967296; omega))
theorem xor_word {a b : Int} (wa : Word a) (wb : Word b) : Word (Builtin.bitXor a b) := by
  have h1 := and_word wa wb
  have h2 := or_word wa wb
  rw [bitXor_and]
  rw [bitOr_and] at h2
  obtain ⟨h2, h3⟩ := h2
  constructor <;> omega
theorem alt_word {k : Str} {a : Int} (w : Word a) : Word (alt k a) := by
  unfold alt
  split
  · exact mod_word _
  split
  · exact xor_word w ⟨by decide, by decide⟩
  split
  · exact ⟨by decide, by decide⟩
  · exact ⟨by decide, by decide⟩
theorem div_word {a b : Int} (wa : Word a) (hb : 0 < b) : Word (a / b) := by
  refine ⟨Int.ediv_nonneg wa.1 (Int.le_of_lt hb), Int.lt_of_le_of_lt (Int.ediv_le_self _ wa.1) wa.2⟩
theorem comb_word {k : Str} {a b : Int} (wa : Word a) (wb : Word b) : Word (comb k a b) := by
  have b0 := wb.1
  unfold comb
  split
  · exact mod_word _
  split
  · exact mod_word _
  split
  · exact mod_word _
  split
  · split
    · exact ⟨by decide, by decide⟩
    · exact div_word wa (by omega)
  split
  · split
    · exact wa
    · have h1 := Int.emod_nonneg a (b := b) (by omega)
      have h2 := Int.emod_lt_of_pos a (b := b) (by omega)
      have := wb.2
      exact ⟨h1, by omega⟩
  split
  · have := and_word wa wb
    have := wa.2
    exact ⟨by omega, by omega⟩
  split
  · exact or_word wa wb
  split
  · exact xor_word wa wb
  split
  · exact mod_word _
  split
  · refine div_word wa (Int.pow_pos (by decide))
  split
  · exact ⟨by decide, by decide⟩
  · exact ⟨by decide, by decide⟩
theorem ev_word {g : Env} {ρ : Str → List Int} {H : Hp} {N : Addr} (nm : NmAt H N g ρ) : ∀ {e : Ex}, ExW g e → Word (ev ρ e) := by
  intro e
  induction e with
  | num n => intro h; exact h
  | cell s =>
    intro h
    rcases h with h | h
    · obtain ⟨n1, n2, n3⟩ := nm.ne s 0 h
      exact (getD_word (List.length_pos_iff.mpr n1) n3).2
    · rw [nm.nv] at h; cases h
  | «at» s i ih =>
    intro h
    obtain ⟨⟨z, _, m⟩, hi⟩ := h
    obtain ⟨n1, n2, n3⟩ := nm.ne s z m
    have lp := List.length_pos_iff.mpr n1
    have h1 := Int.emod_nonneg (ev ρ i) (b := ((ρ s).length : Int)) (by omega)
    have h2 := Int.emod_lt_of_pos (ev ρ i) (b := ((ρ s).length : Int)) (by omega)
    exact (getD_word (by omega) n3).2
  | un s i ih => intro h; exact alt_word (ih h.2)
  | bin s a b iha ihb => intro h; exact comb_word (iha h.2.1) (ihb h.2.2)
theorem bins_split : ∀ k ∈ BINS, k ∈ Mine.ops ∨ k ∈ cmps := by decide +kernel
section
variable {P : Program} {w : World} {K : PySem.W.Frag} {mg : Str → Option Value} {base : Heap}
def sp_evaluate (K : PySem.W.Frag) : Sp := fun vs H Q _ => ∃ (g : Env) (ρ : Str → List Int) (N : Addr) (v : V) (x : Ex), vs = [v, .ref N] ∧ Dp K H v x.d ∧ ExW g x ∧ x.depth ≤ 8 ∧ NmAt H N g ρ ∧ ∀ H', Same H H' → Q (.int (ev ρ x)) H'
theorem ok_evaluate (T : Top K mg) : FnOk P w K mg base CX0 4 T.a_evaluate T.d_evaluate ["e", "names"]  (sp_evaluate K) := by
  refine T.F_evaluate.ok sc_evaluate (fun vs H Q E h => ?_) (fun cdv A outer s H vs Q E hr h => ?_)
  · obtain ⟨_, _, _, _, _, rfl, _⟩ := h
    rfl
  · obtain ⟨g, ρ, N, v, x, rfl, dv, ew, dx, nm, q⟩ := h
    refine ⟨_, (pss_cons (ps_set (i := 2) sc_evaluate.nd rfl (by first | exact Or.inl rfl | exact Or.inr rfl) (pe_lst pa_nil))
  (pss_cons (ps_for PassesOwn.never rfl (pi_list (pe_call (ok_parts T) (hr.mono (by decide)) (by rfl) T.g_parts T.F_parts.kp T.b_parts .nil pass0 (pa_cons (pv 0) pa_nil))) (pg_name (i := 3) sc_evaluate.nd rfl (by first | exact Or.inl rfl | exact Or.inr rfl))
  (pss_cons (ps_set (i := 4) sc_evaluate.nd rfl (by first | exact Or.inl rfl | exact Or.inr rfl) (pe_ix ix_tup (pv 3) pe_int (fun _ _ => rfl)))
  (pss_one (ps_if (pt_cmpR op_eq (pv 4) pe_str (nomark _))
  (pss_one (ps_expr (pe_bm PySem.F.plainAttrs_list PySem.F.slot_list_append PySem.F.type_list_append mt_append (pv 2) (pa_cons (pe_ix ix_tup (pv 3) pe_int (fun _ _ => rfl)) pa_nil))))
  (pss_one (ps_if (pt_cmpR op_eq (pv 4) pe_str (nomark _))
  (pss_one (ps_expr (pe_bm PySem.F.plainAttrs_list PySem.F.slot_list_append PySem.F.type_list_append mt_append (pv 2) (pa_cons (pe_ix ix_list (pe_dget (hu_of hr) (pv 1) (pe_ix ix_tup (pv 3) pe_int (fun _ _ => rfl)) (fun _ _ => rfl)) pe_int (fun _ _ => rfl)) pa_nil))))
  (pss_one (ps_if (pt_cmpR op_eq (pv 4) pe_str (nomark _))
  (pss_cons (ps_set (i := 5) sc_evaluate.nd rfl (by first | exact Or.inl rfl | exact Or.inr rfl) (pe_dget (hu_of hr) (pv 1) (pe_ix ix_tup (pv 3) pe_int (fun _ _ => rfl)) (fun _ _ => rfl)))
  (pss_one (ps_expr (pe_bm PySem.F.plainAttrs_list PySem.F.slot_list_append PySem.F.type_list_append mt_append (pv 2) (pa_cons (pe_ix ix_list (pv 5) (pe_op op_mod (pe_bm0 PySem.F.plainAttrs_list PySem.F.slot_list_pop PySem.F.type_list_pop mt_pop (pv 2)) (pe_callB call_len_seq (by rfl) T.m_len PySem.boot_len (pa_cons (pv 5) pa_nil))) (fun _ _ => rfl)) pa_nil)))))
  (pss_one (ps_if (pt_cmpR op_eq (pe_callB call_len_seq (by rfl) T.m_len PySem.boot_len (pa_cons (pv 3) pa_nil)) pe_int (nomark _))
  (pss_one (ps_expr (pe_bm PySem.F.plainAttrs_list PySem.F.slot_list_append PySem.F.type_list_append mt_append (pv 2) (pa_cons (pe_call (ok_alter T) (hr.mono (by decide)) (by rfl) T.g_alter T.F_alter.kp T.b_alter .nil pass0 (pa_cons (pv 4) (pa_cons (pe_bm0 PySem.F.plainAttrs_list PySem.F.slot_list_pop PySem.F.type_list_pop mt_pop (pv 2)) pa_nil))) pa_nil))))
  (pss_cons (ps_set (i := 6) sc_evaluate.nd rfl (by first | exact Or.inl rfl | exact Or.inr rfl) (pe_bm0 PySem.F.plainAttrs_list PySem.F.slot_list_pop PySem.F.type_list_pop mt_pop (pv 2)))
  (pss_one (ps_expr (pe_bm PySem.F.plainAttrs_list PySem.F.slot_list_append PySem.F.type_list_append mt_append (pv 2) (pa_cons (pe_call (ok_combine T) (hr.mono (by decide)) (by rfl) T.g_combine T.F_combine.kp T.b_combine .nil pass0 (pa_cons (pv 4) (pa_cons (pe_bm0 PySem.F.plainAttrs_list PySem.F.slot_list_pop PySem.F.type_list_pop mt_pop (pv 2)) (pa_cons (pv 6) pa_nil)))) pa_nil)))))))))))))))
  (pss_one (ps_ret (pe_ix ix_list (pv 2) pe_int (fun _ _ => rfl)))))), ?_⟩
    have lx := post_len x 8 dx
    have lx2 : (2 : Nat) ^ 8 = 256 := rfl
    rw [show ∀ a0 a1 : V, L2.start ["e", "names", "values", "part", "kind", "words", "right"] [a0, a1] = [some a0, some a1, none, none, none, none, none] from fun _ _ => rfl]
    walk_at "my rn"
    intro A0 H1 nA s1 hA
    walk_at "my rn"
    refine ⟨g, v, x, H, rfl, s1, dv, ew, dx, fun L xs H2 s2 nL hL al => ?_⟩
    walk_at "my rn"
    have AL : L ≠ A0 := fun z => by rw [z, hA] at nL; cases nL
    have lxs : xs.length = x.post.length := by rw [dps_len al, List.length_map]
    refine for_it (walk_list (xs := xs)) (fun i σ H' => ∃ (st : List Ex) (y3 y4 y5 y6 : Option V), σ = [some v, some (.ref N), some (.ref A0), y3, y4, y5, y6] ∧ Same H H' ∧ H' L = some (.lst xs) ∧ H' A0 = some (.lst ((st.map (ev ρ)).map V.int)) ∧ st.length ≤ i ∧ (∀ e ∈ st, ExW g e) ∧ Run st (x.post.drop i) [x])
      ⟨[], none, none, none, none, rfl, s1.trans s2, hL, s2 _ _ hA, Nat.le_refl _, fun _ m => (by cases m), ?_⟩ (fun i σ H' _ ⟨_, _, _, _, _, _, _, h, _⟩ => SqL.of h) ?_ ?_
    · have := run_post x [] [] [x] (Run.nil _)
      rw [List.append_nil] at this
      exact this
    · rintro i y σ H3o H3 hi ⟨st, y3, y4, y5, y6, rfl, s3, hL3, hA3, lst, gst, run⟩ ⟨rfl, hy⟩
      obtain ⟨d, hd, dd⟩ := dp_at' al hy
      obtain ⟨p, hp, rfl⟩ : ∃ p, x.post[i]? = some p ∧ p.d = d := by
        rw [List.getElem?_map] at hd
        cases z : x.post[i]? with
        | none => rw [z] at hd; cases hd
        | some s => rw [z] at hd; exact ⟨s, rfl, Option.some.inj hd⟩
      have gp := exw_post ew p (List.mem_of_getElem? hp)
      have dr : x.post.drop i = p :: x.post.drop (i + 1) := by
        have hl := (List.getElem?_eq_some_iff.mp hp).1
        rw [List.drop_eq_getElem_cons hl, (List.getElem?_eq_some_iff.mp hp).2]
      rw [dr] at run
      obtain ⟨st0, rfl, run2⟩ := run.inv
      have dd := dp_same s3 dd
      have gst0 : ∀ e ∈ st0 ++ [p], ExW g e := fun e m => by
        rcases List.mem_append.mp m with m | m
        · exact gst e (List.mem_append.mpr (.inl m))
        · rw [List.mem_singleton.mp m]; exact gp
      rw [List.length_append] at lst
      have fin : ∀ {Hx : Hp} {y3 y4 y5 y6 : Option V}, Same H Hx → Hx L = some (.lst xs) → (Hx A0 = some (.lst ((st0.map (ev ρ)).map V.int ++ [.int (ev ρ p)]))) → ∃ (st : List Ex) (z3 z4 z5 z6 : Option V), [some v, some (.ref N), some (.ref A0), y3, y4, y5, y6] = [some v, some (.ref N), some (.ref A0), z3, z4, z5, z6] ∧ Same H Hx ∧ Hx L = some (.lst xs) ∧ Hx A0 = some (.lst ((st.map (ev ρ)).map V.int)) ∧ st.length ≤ i + 1 ∧ (∀ e ∈ st, ExW g e) ∧ Run st (x.post.drop (i + 1)) [x] := fun sx hLx hAx =>
        ⟨st0 ++ [p], _, _, _, _, rfl, sx, hLx, by rw [hAx]; simp, by rw [List.length_append]; show st0.length + 1 ≤ _; omega, gst0, run2⟩
      have upA : ∀ {Hx : Hp} {o : HO}, Same H Hx → Same H (upd Hx A0 o) := fun s b o e => by rw [upd_ne (fun z => by rw [z, nA] at e; cases e)]; exact s b o e
      cases p with
      | num n =>
        obtain ⟨t, zs, rfl, hx, ha⟩ := dpT dd
        obtain ⟨v0, x0, rfl, d0, ha⟩ := dp1 ha
        obtain ⟨v1, x0, rfl, d1, ha⟩ := dp1 ha
        cases dp0 ha; cases dpS d0; cases dpI d1
        walk_at "my rn"
        refine Rd.ifD (fun _ => ?_) fun z => absurd rfl z
        walk_at "my rn"
        refine Rd.app hA3 (Rd.szl (by rw [List.length_map, List.length_map, List.length_append]; omega)) ?_
        refine fin (upA s3) (by rw [upd_ne AL]; exact hL3) ?_
        rw [upd_same, show (Ex.num n).ops = [] from rfl, List.append_nil]; rfl
      | cell s =>
        obtain ⟨t, zs, rfl, hx, ha⟩ := dpT dd
        obtain ⟨v0, x0, rfl, d0, ha⟩ := dp1 ha
        obtain ⟨v1, x0, rfl, d1, ha⟩ := dp1 ha
        cases dp0 ha; cases dpS d0; cases dpS d1
        have mem : (s, (0 : Int)) ∈ g.cells := gp.resolve_right fun m => by rw [nm.nv] at m; cases m
        obtain ⟨m, hN, f⟩ := (nm.same s3).ex
        obtain ⟨a, la, hla⟩ := f s 0 mem
        obtain ⟨n1, n2, n3⟩ := nm.ne s 0 mem
        have hg := (getD_word (List.length_pos_iff.mpr n1) n3).1
        have hg2 : ((ρ s).map V.int)[0]? = some (.int ((ρ s).getD 0 0)) := by rw [List.getElem?_map, hg]; rfl
        walk_at "my rn"
        refine Rd.ifD (fun z => absurd (V.str.inj z) (by decide +kernel)) fun _ => ?_
        walk_at "my rn"
        refine Rd.ifD (fun _ => ?_) fun z => absurd rfl z
        walk_at "my rn"
        refine Rd.dgetSo hN la ?_
        walk_at "my rn"
        refine Rd.ixLq (SqL.of hla) (Rd.at_val (j := 0) rfl hg2) ?_
        walk_at "my rn"
        refine Rd.app hA3 (Rd.szl (by rw [List.length_map, List.length_map, List.length_append]; omega)) ?_
        refine fin (upA s3) (by rw [upd_ne AL]; exact hL3) ?_
        rw [upd_same, show (Ex.cell s).ops = [] from rfl, List.append_nil]; rfl
      | «at» s i' =>
        obtain ⟨t, zs, rfl, hx, ha⟩ := dpT dd
        obtain ⟨v0, x0, rfl, d0, ha⟩ := dp1 ha
        obtain ⟨v1, x0, rfl, d1, ha⟩ := dp1 ha
        obtain ⟨v2, x0, rfl, d2, ha⟩ := dp1 ha
        cases dp0 ha; cases dpS d0; cases dpS d1
        obtain ⟨⟨z, _, mem⟩, hi'⟩ := id gp
        obtain ⟨m, hN, f⟩ := nm.ex
        have hN := s3 _ _ hN
        obtain ⟨a, la, hla⟩ := f s z mem
        obtain ⟨n1, n2, n3⟩ := nm.ne s z mem
        have hA3' : H3 A0 = some (.lst ((st0.map (ev ρ)).map V.int ++ [.int (ev ρ i')])) := by rw [hA3]; simp [Ex.ops]
        walk_at "my rn"
        refine Rd.ifD (fun z => absurd (V.str.inj z) (by decide +kernel)) fun _ => ?_
        walk_at "my rn"
        refine Rd.ifD (fun z => absurd (V.str.inj z) (by decide +kernel)) fun _ => ?_
        walk_at "my rn"
        refine Rd.ifD (fun _ => ?_) fun z => absurd rfl z
        walk_at "my rn"
        refine Rd.dgetSo hN la ?_
        walk_at "my rn"
        refine Rd.popI hA3' (last_at' _ _) ?_
        rw [List.dropLast_concat]
        obtain ⟨H5, e5⟩ : ∃ H5, H5 = upd H3 A0 (.lst ((st0.map (ev ρ)).map V.int)) := ⟨_, rfl⟩
        have hA5 : H5 A0 = some (.lst ((st0.map (ev ρ)).map V.int)) := by rw [e5]; exact upd_same
        have hL5 : H5 L = some (.lst xs) := by rw [e5, upd_ne AL]; exact hL3
        have s5 : Same H H5 := by rw [e5]; exact upA s3
        have lp := List.length_pos_iff.mpr n1
        have hla5 : H5 a = some (.lst ((ρ s).map V.int)) := s5 _ _ hla
        have lpp : (0 : Int) < (((ρ s).map V.int).length : Int) := by rw [List.length_map]; omega
        rw [← e5]
        walk_at "my rn"
        rw [List.length_map]
        have b1 := Int.emod_nonneg (ev ρ i') (b := ((ρ s).length : Int)) (by omega)
        have b2 := Int.emod_lt_of_pos (ev ρ i') (b := ((ρ s).length : Int)) (by omega)
        have hg := (getD_word (l := ρ s) (k := (ev ρ i' % ((ρ s).length : Int)).toNat) (by omega) n3).1
        have hg2 : ((ρ s).map V.int)[(ev ρ i' % ((ρ s).length : Int)).toNat]? = some (.int ((ρ s).getD (ev ρ i' % ((ρ s).length : Int)).toNat 0)) := by rw [List.getElem?_map, hg]; rfl
        refine Rd.ixLq (SqL.of hla5) (Rd.at_val (j := (ev ρ i' % ((ρ s).length : Int)).toNat) (by omega) hg2) ?_
        walk_at "my rn"
        refine Rd.app hA5 (Rd.szl (by rw [List.length_map, List.length_map]; omega)) ?_
        refine fin (upA s5) (by rw [upd_ne AL]; exact hL5) ?_
        rw [upd_same]; rfl
      | un k a =>
        obtain ⟨k1, k2, k3⟩ := un_kind (.inl gp.1)
        obtain ⟨t, zs, rfl, hx, ha⟩ := dpT dd
        obtain ⟨v0, x0, rfl, d0, ha⟩ := dp1 ha
        obtain ⟨v1, x0, rfl, d1, ha⟩ := dp1 ha
        cases dp0 ha; cases dpS d0
        have hA3' : H3 A0 = some (.lst ((st0.map (ev ρ)).map V.int ++ [.int (ev ρ a)])) := by rw [hA3]; simp [Ex.ops]
        walk_at "my rn"
        refine Rd.ifD (fun z => absurd (V.str.inj z) k1) fun _ => ?_
        walk_at "my rn"
        refine Rd.ifD (fun z => absurd (V.str.inj z) k2) fun _ => ?_
        walk_at "my rn"
        refine Rd.ifD (fun z => absurd (V.str.inj z) k3) fun _ => ?_
        walk_at "my rn"
        refine Rd.ifD (fun _ => ?_) fun z => absurd rfl z
        walk_at "my rn"
        refine Rd.popI hA3' (last_at' _ _) ?_
        rw [List.dropLast_concat]
        obtain ⟨H5, e5⟩ : ∃ H5, H5 = upd H3 A0 (.lst ((st0.map (ev ρ)).map V.int)) := ⟨_, rfl⟩
        have hA5 : H5 A0 = some (.lst ((st0.map (ev ρ)).map V.int)) := by rw [e5]; exact upd_same
        have hL5 : H5 L = some (.lst xs) := by rw [e5, upd_ne AL]; exact hL3
        have s5 : Same H H5 := by rw [e5]; exact upA s3
        rw [← e5]
        walk_at "my rn"
        refine ⟨k, _, rfl, gp.1, ?_⟩
        walk_at "my rn"
        refine Rd.app hA5 (Rd.szl (by rw [List.length_map, List.length_map]; omega)) ?_
        refine fin (upA s5) (by rw [upd_ne AL]; exact hL5) ?_
        rw [upd_same]; rfl
      | bin k a b =>
        obtain ⟨k1, k2, k3⟩ := un_kind (.inr gp.1)
        obtain ⟨t, zs, rfl, hx, ha⟩ := dpT dd
        obtain ⟨v0, x0, rfl, d0, ha⟩ := dp1 ha
        obtain ⟨v1, x0, rfl, d1, ha⟩ := dp1 ha
        obtain ⟨v2, x0, rfl, d2, ha⟩ := dp1 ha
        cases dp0 ha; cases dpS d0
        have hA3' : H3 A0 = some (.lst (((st0.map (ev ρ)).map V.int ++ [.int (ev ρ a)]) ++ [.int (ev ρ b)])) := by rw [hA3]; simp [Ex.ops]
        walk_at "my rn"
        refine Rd.ifD (fun z => absurd (V.str.inj z) k1) fun _ => ?_
        walk_at "my rn"
        refine Rd.ifD (fun z => absurd (V.str.inj z) k2) fun _ => ?_
        walk_at "my rn"
        refine Rd.ifD (fun z => absurd (V.str.inj z) k3) fun _ => ?_
        walk_at "my rn"
        refine Rd.ifD (fun z => absurd (V.int.inj z) (by show ¬ ((3 : Nat) : Int) = 2; decide)) fun _ => ?_
        walk_at "my rn"
        refine Rd.popI hA3' (last_at' _ _) ?_
        rw [List.dropLast_concat]
        obtain ⟨H5, e5⟩ : ∃ H5, H5 = upd H3 A0 (.lst ((st0.map (ev ρ)).map V.int ++ [.int (ev ρ a)])) := ⟨_, rfl⟩
        have hA5 : H5 A0 = some (.lst ((st0.map (ev ρ)).map V.int ++ [.int (ev ρ a)])) := by rw [e5]; exact upd_same
        have hL5 : H5 L = some (.lst xs) := by rw [e5, upd_ne AL]; exact hL3
        have s5 : Same H H5 := by rw [e5]; exact upA s3
        rw [← e5]
        walk_at "my rn"
        refine Rd.popI hA5 (last_at' _ _) ?_
        rw [List.dropLast_concat]
        obtain ⟨H6, e6⟩ : ∃ H6, H6 = upd H5 A0 (.lst ((st0.map (ev ρ)).map V.int)) := ⟨_, rfl⟩
        have hA6 : H6 A0 = some (.lst ((st0.map (ev ρ)).map V.int)) := by rw [e6]; exact upd_same
        have hL6 : H6 L = some (.lst xs) := by rw [e6, upd_ne AL]; exact hL5
        have s6 : Same H H6 := by rw [e6]; exact upA s5
        rw [← e6]
        walk_at "my rn"
        refine ⟨k, _, _, rfl, ev_word nm gp.2.1, ev_word nm gp.2.2, bins_split k gp.1, ?_⟩
        walk_at "my rn"
        refine Rd.app hA6 (Rd.szl (by rw [List.length_map, List.length_map]; omega)) ?_
        refine fin (upA s6) (by rw [upd_ne AL]; exact hL6) ?_
        rw [upd_same]; rfl
    · rintro σ H3 ⟨st, y3, y4, y5, y6, rfl, s3, hL3, hA3, lst, gst, run⟩
      rw [List.drop_of_length_le (by omega)] at run
      have e := run.fin
      subst e
      walk_at "my rn"
      exact q H3 s3
end

end Mine

set_option Elab.async false
set_option linter.all false
set_option maxRecDepth 100000
set_option maxHeartbeats 1000000


--@@rec _law_expr _law_value
--@@guardsys
namespace Mine
open PySem PySem.Spec PyProof.Rows L2
local macro_rules | `(tactic| walk_at "my rn") => `(tactic| (repeat (first | with_reducible refine Rd.catQI ?_ | with_reducible refine Rd.revN ?_ | with_reducible refine Rd.lzip ?_ | with_reducible refine Rd.fld ?_ | with_reducible refine Rd.sfld ?_ | with_reducible refine Rd.meth ?_ | with_reducible refine Rd.make ?_ | with_reducible refine Rd.izip ?_ | with_reducible refine Rd.ckw ?_ | with_reducible refine Rd.dsetd ?_ | with_reducible refine Rd.ddel ?_ | with_reducible refine Rd.disp ?_ | with_reducible refine Rd.pcons ?_ | with_reducible refine Rd.pnil ?_ | with_reducible refine Rd.dsp ?_ | with_reducible refine Rd.dnew ?_ | with_reducible refine Rd.din ?_ | with_reducible refine Rd.dnot ?_ | with_reducible refine Rd.dget ?_ | with_reducible refine Rd.dget2 ?_ | with_reducible refine Rd.dput ?_ | with_reducible refine Rd.cbDictOf ?_ | with_reducible refine Rd.iitems ?_ | with_reducible refine Rd.ikeys ?_ | with_reducible refine Rd.dc ?_ | with_reducible refine Rd.nwD ?_ | with_reducible refine Rd.tupN ?_ | with_reducible refine Rd.lstN ?_ | with_reducible refine Rd.cbListOf ?_ | with_reducible refine Rd.cbListOfR ?_ | with_reducible refine Rd.catI ?_ | with_reducible refine Rd.slN ?_ | with_reducible refine Rd.cbSrtI ?_ | with_reducible refine Rd.seq ?_ | with_reducible refine Rd.next ?_ | with_reducible refine Rd.brk ?_ | with_reducible refine Rd.cont ?_ | with_reducible refine Rd.asg ?_ | with_reducible refine Rd.ret ?_ | with_reducible refine Rd.retN ?_ | with_reducible refine Rd.drop ?_ | with_reducible refine Rd.ifs ?_ | with_reducible refine Rd.ife ?_ | with_reducible refine Rd.test ?_ | with_reducible refine Rd.tb_ ?_ | with_reducible refine Rd.bl ?_ | with_reducible refine Rd.bl2 ?_ | with_reducible refine Rd.and_ ?_ | with_reducible refine Rd.or_ ?_ | with_reducible refine Rd.not_ ?_ | with_reducible refine Rd.andV ?_ | with_reducible refine Rd.orV ?_ | with_reducible refine Rd.notV ?_ | with_reducible refine Rd.op ?_ | with_reducible refine Rd.un ?_ | with_reducible refine Rd.I0 ?_ | with_reducible refine Rd.U ?_ | with_reducible refine Rd.ip ?_ | with_reducible refine Rd.c_ ?_ | with_reducible refine Rd.nil ?_ | with_reducible refine Rd.cons ?_ | with_reducible refine Rd.call ?_ | with_reducible refine Rd.cb ?_ | with_reducible refine Rd.bm ?_ | with_reducible refine Rd.bm0 ?_ | with_reducible refine Rd.nopart ?_ | with_reducible refine Rd.part ?_ | with_reducible refine Rd.int1 ?_ | with_reducible refine Rd.ints1 ?_ | with_reducible refine Rd.ints2 ?_ | with_reducible refine Rd.gcons ?_ | with_reducible refine Rd.gnil ?_ | with_reducible refine Rd.sub ?_ | with_reducible refine Rd.isN ?_ | with_reducible refine Rd.chain ?_ | with_reducible refine Rd.rf ?_ | with_reducible refine Rd.tyS ?_ | with_reducible refine Rd.intI ?_ | with_reducible refine Rd.lc ?_ | with_reducible refine Rd.for_ ?_ | with_reducible refine Rd.ilist ?_ | with_reducible refine Rd.itup ?_ | with_reducible refine Rd.irng1 ?_ | with_reducible refine Rd.irng2 ?_ | with_reducible refine Rd.ienum ?_ | with_reducible refine Rd.istr ?_ | with_reducible refine Rd.refA ?_ | with_reducible refine Rd.strA ?_ | with_reducible refine Rd.yes ?_ | with_reducible refine Rd.ifT ?_ | with_reducible refine Rd.ifF ?_ | with_reducible refine Rd.ifnT ?_ | with_reducible refine Rd.ifnF ?_ | with_reducible refine Rd.isi_ii ?_ | with_reducible refine Rd.isi_ib ?_ | with_reducible refine Rd.isi_is ?_ | with_reducible refine Rd.isi_il ?_ | with_reducible refine Rd.isi_it ?_ | with_reducible refine Rd.isi_id ?_ | with_reducible refine Rd.isi_bi ?_ | with_reducible refine Rd.isi_bb ?_ | with_reducible refine Rd.isi_bs ?_ | with_reducible refine Rd.isi_bl ?_ | with_reducible refine Rd.isi_bt ?_ | with_reducible refine Rd.isi_bd ?_ | with_reducible refine Rd.isi_si ?_ | with_reducible refine Rd.isi_sb ?_ | with_reducible refine Rd.isi_ss ?_ | with_reducible refine Rd.isi_sl ?_ | with_reducible refine Rd.isi_st ?_ | with_reducible refine Rd.isi_sd ?_ | with_reducible refine Rd.isi_ni ?_ | with_reducible refine Rd.isi_nb ?_ | with_reducible refine Rd.isi_ns ?_ | with_reducible refine Rd.isi_nl ?_ | with_reducible refine Rd.isi_nt ?_ | with_reducible refine Rd.isi_nd ?_ | with_reducible refine Rd.sl ?_ | with_reducible refine Rd.v0 ?_ | with_reducible refine Rd.v1 ?_ | with_reducible refine Rd.v2 ?_ | with_reducible refine Rd.v3 ?_ | with_reducible refine Rd.v4 ?_ | with_reducible refine Rd.v5 ?_ | with_reducible refine Rd.v6 ?_ | with_reducible refine Rd.v7 ?_ | with_reducible refine Rd.v8 ?_ | with_reducible refine Rd.v9 ?_ | with_reducible refine Rd.v10 ?_ | with_reducible refine Rd.v11 ?_ | with_reducible refine Rd.v12 ?_ | with_reducible refine Rd.v13 ?_ | with_reducible refine Rd.v14 ?_ | with_reducible refine Rd.v15 ?_ | with_reducible refine Rd.n0 ?_ | with_reducible refine Rd.n1 ?_ | with_reducible refine Rd.n2 ?_ | with_reducible refine Rd.n3 ?_ | with_reducible refine Rd.n4 ?_ | with_reducible refine Rd.n5 ?_ | with_reducible refine Rd.n6 ?_ | with_reducible refine Rd.n7 ?_ | with_reducible refine Rd.n8 ?_ | with_reducible refine Rd.n9 ?_ | with_reducible refine Rd.n10 ?_ | with_reducible refine Rd.n11 ?_ | with_reducible refine Rd.n12 ?_ | with_reducible refine Rd.n13 ?_ | with_reducible refine Rd.n14 ?_ | with_reducible refine Rd.n15 ?_ | with_reducible refine Rd.g0 ?_ | with_reducible refine Rd.g1 ?_ | with_reducible refine Rd.g2 ?_ | with_reducible refine Rd.g3 ?_ | with_reducible refine Rd.g4 ?_ | with_reducible refine Rd.g5 ?_ | with_reducible refine Rd.g6 ?_ | with_reducible refine Rd.g7 ?_ | with_reducible refine Rd.g8 ?_ | with_reducible refine Rd.g9 ?_ | with_reducible refine Rd.g10 ?_ | with_reducible refine Rd.g11 ?_ | with_reducible refine Rd.g12 ?_ | with_reducible refine Rd.g13 ?_ | with_reducible refine Rd.g14 ?_ | with_reducible refine Rd.g15 ?_ | ((with_reducible apply Rd.glst); (first | assumption | exact upd_same); exact rfl) | ((with_reducible apply Rd.gtP); assumption; assumption) | ((with_reducible apply Rd.revq); first | assumption | exact SqL.of (by assumption)) | ((with_reducible apply Rd.fldI); (first | assumption | exact upd_same); assumption; assumption; (first | assumption | with_unfolding_all rfl)) | ((with_reducible apply Rd.methI); (first | assumption | exact upd_same); (first | assumption | with_unfolding_all rfl)) | ((with_reducible apply Rd.sfldI); (first | assumption | exact upd_same); assumption; assumption; exact Nat.le_of_ble_eq_true rfl) | ((with_reducible apply Rd.maxL); assumption) | ((with_reducible apply Rd.anyL); assumption) | ((with_reducible apply Rd.sumL); assumption) | ((with_reducible refine Rd.izI (by assumption) (by assumption) ?_)) | ((with_reducible refine Rd.eq ?_ ?_); exact rfl) | ((with_reducible refine Rd.ne ?_ ?_); exact rfl) | ((with_reducible refine Rd.szA ?_ ?_); exact Nat.le_of_ble_eq_true rfl) | ((with_reducible refine Rd.I ?_ ?_); first | assumption | decide | exact Or.inr (by decide +kernel) | exact Or.inl (by decide +kernel) | exact ⟨by decide, by decide⟩ | exact ⟨by decide, by decide, by decide⟩ | omega) | ((with_reducible apply Rd.tyL); first | assumption | exact upd_same) | ((with_reducible apply Rd.tyLq); assumption) | ((with_reducible apply Rd.ixL); (first | assumption | exact upd_same); exact rfl) | ((with_reducible apply Rd.ixT); (first | assumption | exact upd_same); exact rfl) | ((with_reducible apply Rd.ixLq); assumption; exact rfl) | ((with_reducible apply Rd.ixTq); assumption; exact rfl) | ((with_reducible apply Rd.gtup); (first | assumption | exact upd_same); exact rfl) | ((with_reducible apply Rd.gtupq); assumption; exact rfl) | ((with_reducible apply Rd.sqAq); assumption) | ((with_reducible apply Rd.stAq); assumption) | ((with_reducible apply Rd.enAq); assumption) | ((with_reducible apply Rd.lenLq); assumption) | ((with_reducible apply Rd.lenTq); assumption) | ((with_reducible apply Rd.sqA); first | assumption | exact upd_same) | ((with_reducible apply Rd.stA); first | assumption | exact upd_same) | ((with_reducible apply Rd.enA); first | assumption | exact upd_same) | ((with_reducible apply Rd.lenL); first | assumption | exact upd_same) | ((with_reducible apply Rd.lenT); first | assumption | exact upd_same) | ((with_reducible refine Rd.nwT ?_ ?_); exact Nat.le_of_ble_eq_true rfl) | ((with_reducible refine Rd.nwL ?_ ?_); exact Nat.le_of_ble_eq_true rfl) | ((with_reducible apply Rd.isd); assumption) | ((with_reducible apply Rd.dictOf); assumption) | ((with_reducible refine Rd.isi_dd (by assumption) ?_)) | ((with_reducible apply Rd.itA); first | assumption | exact upd_same) | ((with_reducible apply Rd.ikA); first | assumption | exact upd_same) | ((with_reducible apply Rd.listOf); assumption) | ((with_reducible apply Rd.listOfq); assumption) | ((with_reducible apply Rd.slo); assumption) | ((with_reducible apply Rd.slq); assumption) | ((with_reducible apply Rd.srtI); assumption) | ((with_reducible apply Rd.srtIo); assumption) | ((with_reducible refine Rd.isi_li (by assumption) ?_)) | ((with_reducible refine Rd.isi_lb (by assumption) ?_)) | ((with_reducible refine Rd.isi_ls (by assumption) ?_)) | ((with_reducible refine Rd.isi_ll (by assumption) ?_)) | ((with_reducible refine Rd.isi_lt (by assumption) ?_)) | ((with_reducible refine Rd.isi_ld (by assumption) ?_)) | ((with_reducible refine Rd.isi_ti (by assumption) ?_)) | ((with_reducible refine Rd.isi_tb (by assumption) ?_)) | ((with_reducible refine Rd.isi_ts (by assumption) ?_)) | ((with_reducible refine Rd.isi_tl (by assumption) ?_)) | ((with_reducible refine Rd.isi_tt (by assumption) ?_)) | ((with_reducible refine Rd.isi_td (by assumption) ?_)))))







/-! ### the law's value -/
theorem lks_hit {k : Str} {v : V} {r : List (Str × V)} : Rd.lks ((k, v) :: r) k = some v := by
  unfold Rd.lks
  rw [List.find?_cons, decide_eq_true rfl]; rfl
theorem lks_miss {k k' : Str} {v : V} {r : List (Str × V)} {o : Option V} (h : k' ≠ k) (q : Rd.lks r k = o) : Rd.lks ((k', v) :: r) k = o := by
  unfold Rd.lks at *
  rw [List.find?_cons, decide_eq_false h]; exact q
theorem bit_mod (c : Bool) : (if c = true then (1 : Int) else 0) % 4294967296 = if c = true then 1 else 0 := by cases c <;> rfl
theorem word_mod {z : Int} (w : Word z) : z % 4294967296 = z := Int.emod_eq_of_lt w.1 w.2
abbrev twoRows (a b l r : Int) (x y : V) : List (Str × V) := [("+", .int (a + b)), ("-", .int (a - b)), ("*", .int (a * b)), ("&", .int (Builtin.bitAnd a b)), ("|", .int (Builtin.bitOr a b)), ("^", .int (Builtin.bitXor a b)),
      ("<", .int (if decide (a < b) = true then 1 else 0)), ("<=", .int (if decide (a ≤ b) = true then 1 else 0)), ("~<", .int (if decide (l < r) = true then 1 else 0)), ("~<=", .int (if decide (l ≤ r) = true then 1 else 0)),
      ("==", .int (if decide (V.int a = V.int b) = true then 1 else 0)), ("!=", .int (if (!decide (V.int a = V.int b)) = true then 1 else 0)), ("and", x), ("or", y)]
theorem sg_lt {a b : Int} (wa : Word a) (wb : Word b) : decide ((a + 2147483648) % 4294967296 < (b + 2147483648) % 4294967296) = decide (sg a < sg b) := by
  obtain ⟨a0, a1⟩ := wa
  obtain ⟨b0, b1⟩ := wb
  unfold sg
  apply decide_eq_decide.mpr
  split <;> split <;> omega
theorem sg_le {a b : Int} (wa : Word a) (wb : Word b) : decide ((a + 2147483648) % 4294967296 ≤ (b + 2147483648) % 4294967296) = decide (sg a ≤ sg b) := by
  obtain ⟨a0, a1⟩ := wa
  obtain ⟨b0, b1⟩ := wb
  unfold sg
  apply decide_eq_decide.mpr
  split <;> split <;> omega
theorem two_val {k : Str} {a b l r : Int} (kb : k ∈ BINS) (c1 : ¬ k ∈ (["/", "mod"] : List Str)) (c2 : k ≠ "<<") (c3 : k ≠ ">>") (wa : Word a) (wb : Word b) (h1 : k = "~<" → decide (l < r) = decide (sg a < sg b)) (h2 : k = "~<=" → decide (l ≤ r) = decide (sg a ≤ sg b)) {x y : V}
    (hx : x = .int (comb "and" a b)) (hy : y = .int (comb "or" a b)) : ∃ z, Rd.lks (twoRows a b l r x y) k = some (.int z) ∧ z % 4294967296 = comb k a b := by
  subst hx
  subst hy
  have hit : ∀ {k : Str} {v : V} {r : List (Str × V)}, Rd.lks ((k, v) :: r) k = some v := lks_hit
  simp only [BINS, List.mem_cons, List.mem_nil_iff, or_false] at kb
  rcases kb with rfl | rfl | rfl | rfl | rfl | rfl | rfl | rfl | rfl | rfl | rfl | rfl | rfl | rfl | rfl | rfl | rfl | rfl
  · exact ⟨_, by repeat (first | exact lks_hit | refine lks_miss (by decide +kernel) ?_), rfl⟩
  · exact ⟨_, by repeat (first | exact lks_hit | refine lks_miss (by decide +kernel) ?_), rfl⟩
  · exact ⟨_, by repeat (first | exact lks_hit | refine lks_miss (by decide +kernel) ?_), rfl⟩
  · exact absurd (by simp) c1
  · exact absurd (by simp) c1
  · exact ⟨_, by repeat (first | exact lks_hit | refine lks_miss (by decide +kernel) ?_), word_mod (comb_word (k := "&") wa wb)⟩
  · exact ⟨_, by repeat (first | exact lks_hit | refine lks_miss (by decide +kernel) ?_), word_mod (comb_word (k := "|") wa wb)⟩
  · exact ⟨_, by repeat (first | exact lks_hit | refine lks_miss (by decide +kernel) ?_), word_mod (comb_word (k := "^") wa wb)⟩
  · exact absurd rfl c2
  · exact absurd rfl c3
  · exact ⟨_, by repeat (first | exact lks_hit | refine lks_miss (by decide +kernel) ?_), bit_mod _⟩
  · exact ⟨_, by repeat (first | exact lks_hit | refine lks_miss (by decide +kernel) ?_), bit_mod _⟩
  · exact ⟨_, by repeat (first | exact lks_hit | refine lks_miss (by decide +kernel) ?_), by rw [bit_mod, h1 rfl]; rfl⟩
  · exact ⟨_, by repeat (first | exact lks_hit | refine lks_miss (by decide +kernel) ?_), by rw [bit_mod, h2 rfl]; rfl⟩
  · exact ⟨_, by repeat (first | exact lks_hit | refine lks_miss (by decide +kernel) ?_), by rw [bit_mod, int_eq]; rfl⟩
  · refine ⟨_, by repeat (first | exact lks_hit | refine lks_miss (by decide +kernel) ?_), ?_⟩
    rw [bit_mod, int_eq]
    show _ = if decide (a ≠ b) = true then (1 : Int) else 0
    by_cases h : a = b <;> simp [h]
  · exact ⟨_, by repeat (first | exact lks_hit | refine lks_miss (by decide +kernel) ?_), word_mod (comb_word (k := "and") wa wb)⟩
  · exact ⟨_, by repeat (first | exact lks_hit | refine lks_miss (by decide +kernel) ?_), word_mod (comb_word (k := "or") wa wb)⟩
section
variable {P : Program} {w : World} {K : PySem.W.Frag} {mg : Str → Option Value} {base : Heap}
def sp__law_two : Sp := fun vs H Q _ => ∃ (k : Str) (a b : Int), vs = [.str k, .int a, .int b] ∧ k ∈ BINS ∧ Word a ∧ Word b ∧ ∀ H', Same H H' → Q (.int (comb k a b)) H'
theorem ok__law_two (T : Top K mg) : FnOk P w K mg base CX0 1 T.a__law_two T.d__law_two ["sign", "a", "b"]  sp__law_two := by
  refine T.F__law_two.ok sc__law_two (fun vs H Q E h => ?_) (fun cdv A outer s H vs Q E hr h => ?_)
  · obtain ⟨_, _, _, rfl, _⟩ := h
    rfl
  · obtain ⟨k, a, b, rfl, kb, wa, wb, q⟩ := h
    refine ⟨_, (pss_cons (ps_if (pt_cmpR op_in_seq (pv 0) (pe_lst (pa_cons pe_str (pa_cons pe_str pa_nil))) (by with_unfolding_all rfl))
  (pss_cons (ps_if (pt_cmpR op_eq (pv 2) pe_int (nomark _))
  (pss_one (ps_ret (pe_ix ix_list (pe_lst (pa_cons pe_int (pa_cons (pv 1) pa_nil))) (pe_callTy call_int1 (by rfl) T.m_int (by decide +kernel) (pa_cons (pe_cmpR op_eq (pv 0) pe_str (nomark _)) pa_nil)) (fun _ _ => rfl))))
  pss_nil)
  (pss_one (ps_ret (pe_ix ix_list (pe_lst (pa_cons (pe_op op_fdivW (pv 1) (pv 2)) (pa_cons (pe_op op_mod (pe_callTy call_int1 (by rfl) T.m_int (by decide +kernel) (pa_cons (pv 1) pa_nil)) (pv 2)) pa_nil))) (pe_callTy call_int1 (by rfl) T.m_int (by decide +kernel) (pa_cons (pe_cmpR op_eq (pv 0) pe_str (nomark _)) pa_nil)) (fun _ _ => rfl)))))
  pss_nil)
  (pss_cons (ps_if (pt_cmpR op_eq (pv 0) pe_str (nomark _))
  (pss_one (ps_ret (pe_op op_mod (pe_callTy call_int1 (by rfl) T.m_int (by decide +kernel) (pa_cons (pe_op op_shl (pv 1) (pe_op op_mod (pe_callTy call_int1 (by rfl) T.m_int (by decide +kernel) (pa_cons (pv 2) pa_nil)) pe_int)) pa_nil)) pe_int)))
  pss_nil)
  (pss_cons (ps_if (pt_cmpR op_eq (pv 0) pe_str (nomark _))
  (pss_one (ps_ret (pe_op op_shr (pv 1) (pe_op op_mod (pe_callTy call_int1 (by rfl) T.m_int (by decide +kernel) (pa_cons (pv 2) pa_nil)) pe_int))))
  pss_nil)
  (pss_cons (ps_set (i := 3) sc__law_two.nd rfl (by first | exact Or.inl rfl | exact Or.inr rfl) (pv 1))
  (pss_cons (ps_set (i := 4) sc__law_two.nd rfl (by first | exact Or.inl rfl | exact Or.inr rfl) (pv 2))
  (pss_cons (ps_if (pt_cmpR op_in_seq (pv 0) (pe_lst (pa_cons pe_str (pa_cons pe_str pa_nil))) (by with_unfolding_all rfl))
  (pss_cons (ps_set (i := 3) sc__law_two.nd rfl (by first | exact Or.inl rfl | exact Or.inr rfl) (pe_op op_mod (pe_callTy call_int1 (by rfl) T.m_int (by decide +kernel) (pa_cons (pe_op op_add (pv 1) pe_int) pa_nil)) pe_int))
  (pss_one (ps_set (i := 4) sc__law_two.nd rfl (by first | exact Or.inl rfl | exact Or.inr rfl) (pe_op op_mod (pe_callTy call_int1 (by rfl) T.m_int (by decide +kernel) (pa_cons (pe_op op_add (pv 2) pe_int) pa_nil)) pe_int))))
  pss_nil)
  (pss_cons (ps_set (i := 5) sc__law_two.nd rfl (by first | exact Or.inl rfl | exact Or.inr rfl) (pe_disp (pps_cons pe_str (pe_op op_add (pv 1) (pv 2)) (pps_cons pe_str (pe_op op_sub (pv 1) (pv 2)) (pps_cons pe_str (pe_op op_mul (pv 1) (pv 2)) (pps_cons pe_str (pe_op op_and (pv 1) (pv 2)) (pps_cons pe_str (pe_op op_or (pv 1) (pv 2)) (pps_cons pe_str (pe_op op_xor (pv 1) (pv 2)) (pps_cons pe_str (pe_callTy call_int1 (by rfl) T.m_int (by decide +kernel) (pa_cons (pe_cmpR op_lt (pv 1) (pv 2) (nomark _)) pa_nil)) (pps_cons pe_str (pe_callTy call_int1 (by rfl) T.m_int (by decide +kernel) (pa_cons (pe_cmpR op_le (pv 1) (pv 2) (nomark _)) pa_nil)) (pps_cons pe_str (pe_callTy call_int1 (by rfl) T.m_int (by decide +kernel) (pa_cons (pe_cmpR op_lt (pv 3) (pv 4) (nomark _)) pa_nil)) (pps_cons pe_str (pe_callTy call_int1 (by rfl) T.m_int (by decide +kernel) (pa_cons (pe_cmpR op_le (pv 3) (pv 4) (nomark _)) pa_nil)) (pps_cons pe_str (pe_callTy call_int1 (by rfl) T.m_int (by decide +kernel) (pa_cons (pe_cmpR op_eq (pv 1) (pv 2) (nomark _)) pa_nil)) (pps_cons pe_str (pe_callTy call_int1 (by rfl) T.m_int (by decide +kernel) (pa_cons (pe_cmpR op_ne (pv 1) (pv 2) (nomark _)) pa_nil)) (pps_cons pe_str (pe_callTy call_int1 (by rfl) T.m_int (by decide +kernel) (pa_cons (pe_and (pe_cmpR op_gt (pv 1) pe_int (nomark _)) (pe_one (pe_cmpR op_gt (pv 2) pe_int (nomark _)))) pa_nil)) (pps_cons pe_str (pe_callTy call_int1 (by rfl) T.m_int (by decide +kernel) (pa_cons (pe_or (pe_cmpR op_gt (pv 1) pe_int (nomark _)) (pe_one (pe_cmpR op_gt (pv 2) pe_int (nomark _)))) pa_nil)) pps_nil)))))))))))))) (by rfl) (by rfl) (List.cons_ne_nil _ _) (Nat.le_of_ble_eq_true rfl)))
  (pss_one (ps_ret (pe_op op_mod (pe_callTy call_int1 (by rfl) T.m_int (by decide +kernel) (pa_cons (pe_dget (hu_of hr) (pv 5) (pv 0) (fun _ _ => rfl)) pa_nil)) pe_int)))))))))), ?_⟩
    rw [show ∀ a0 a1 a2 : V, L2.start ["sign", "a", "b", "left", "right", "rows"] [a0, a1, a2] = [some a0, some a1, some a2, none, none, none] from fun _ _ _ => rfl]
    walk_at "my rn"
    intro L0 H1 n1 s1 h1
    walk_at "my rn"
    refine Rd.inStrs (ns := ["/", "mod"]) h1 ?_
    walk_at "my rn"
    refine Rd.ifD (fun c1 => ?_) (fun c1 => ?_)
    · walk_at "my rn"
      have nm : ¬ (V.str "/" = V.str "mod") := fun z => absurd (V.str.inj z) (by decide +kernel)
      simp only [List.mem_cons, List.mem_nil_iff, or_false] at c1
      refine Rd.ifD (fun cb => ?_) (fun cb => ?_)
      · have cb := V.int.inj cb
        subst cb
        walk_at "my rn"
        intro L3 H3 n3 s3 h3
        walk_at "my rn"
        rcases c1 with rfl | rfl
        · rw [decide_eq_false nm]
          refine .inr ⟨_, rfl, ?_⟩
          refine Rd.ixLq (SqL.of h3) (Rd.at_val (j := 0) rfl rfl) ?_
          exact q _ (s1.trans s3)
        · rw [decide_eq_true rfl]
          refine .inr ⟨_, rfl, ?_⟩
          refine Rd.ixLq (SqL.of h3) (Rd.at_val (j := 1) rfl rfl) ?_
          exact q _ (s1.trans s3)
      · have cb : b ≠ 0 := fun z => cb (by rw [z])
        have b0 := wb.1
        have b1 := wb.2
        walk_at "my rn"
        refine ⟨_, _, rfl, rfl, wide_div (by omega) (word_small wb) (by decide) (by decide), ?_⟩
        walk_at "my rn"
        intro L3 H3 n3 s3 h3
        walk_at "my rn"
        rcases c1 with rfl | rfl
        · rw [decide_eq_false nm]
          refine .inr ⟨_, rfl, ?_⟩
          refine Rd.ixLq (SqL.of h3) (Rd.at_val (j := 0) rfl rfl) ?_
          have e2 : comb "/" a b = a / b := by
            show (if b = 0 then 0 else a / b) = _
            rw [if_neg cb]
          have := q _ (s1.trans s3)
          rw [e2] at this
          exact this
        · rw [decide_eq_true rfl]
          refine .inr ⟨_, rfl, ?_⟩
          refine Rd.ixLq (SqL.of h3) (Rd.at_val (j := 1) rfl rfl) ?_
          have e2 : comb "mod" a b = a % b := by
            show (if b = 0 then a else a % b) = _
            rw [if_neg cb]
          have := q _ (s1.trans s3)
          rw [e2] at this
          exact this
    · have m0 := Int.emod_nonneg b (show (32 : Int) ≠ 0 by decide)
      have m1 := Int.emod_lt_of_pos b (show (0 : Int) < 32 by decide)
      have a0 := wa.1
      have a1 := wa.2
      have b0 := wb.1
      have b1 := wb.2
      walk_at "my rn"
      refine Rd.ifD (fun c2 => ?_) (fun c2 => ?_)
      · have c2 := V.str.inj c2
        subst c2
        walk_at "my rn"
        refine ⟨_, _, rfl, rfl, ⟨m0, by omega, by omega⟩, ?_⟩
        walk_at "my rn"
        exact q _ s1
      · walk_at "my rn"
        refine Rd.ifD (fun c3 => ?_) (fun c3 => ?_)
        · have c3 := V.str.inj c3
          subst c3
          walk_at "my rn"
          exact q _ s1
        · have c2 : k ≠ "<<" := fun z => c2 (by rw [z])
          have c3 : k ≠ ">>" := fun z => c3 (by rw [z])
          walk_at "my rn"
          intro L2 H2 n2 s2 h2
          walk_at "my rn"
          refine Rd.inStrs (ns := ["~<", "~<="]) h2 ?_
          walk_at "my rn"
          refine Rd.ifD (fun c4 => ?_) (fun c4 => ?_)
          rotate_left
          · walk_at "my rn"
            intro D H3 n3 s3 h3
            walk_at "my rn"
            refine ⟨_, _, rfl, rfl, .inl ⟨by omega, by omega⟩, ?_⟩
            walk_at "my rn"
            refine .inr ⟨_, rfl, ?_⟩
            walk_at "my rn"
            refine .inr ⟨_, rfl, ?_⟩
            walk_at "my rn"
            refine .inr ⟨_, rfl, ?_⟩
            walk_at "my rn"
            refine .inr ⟨_, rfl, ?_⟩
            walk_at "my rn"
            refine .inr ⟨_, rfl, ?_⟩
            walk_at "my rn"
            refine .inr ⟨_, rfl, ?_⟩
            walk_at "my rn"
            have nD : H D = none := (s1.trans s2).free n3
            have and1 : comb "and" a b = if decide (a ≠ 0 ∧ b ≠ 0) = true then 1 else 0 := rfl
            have or1 : comb "or" a b = if decide (a ≠ 0 ∨ b ≠ 0) = true then 1 else 0 := rfl
            refine Rd.ifD (fun pa => ?_) (fun pa => ?_)
            · have na : a ≠ 0 := by omega
              walk_at "my rn"
              refine .inr ⟨_, rfl, ?_⟩
              walk_at "my rn"
              rw [decide_eq_true pa]
              walk_at "my rn"
              refine .inr ⟨_, rfl, ?_⟩
              walk_at "my rn"
              obtain ⟨z, hz, ez⟩ := two_val (l := a) (r := b) kb c1 c2 c3 wa wb (fun z => absurd (by rw [z]; simp) c4) (fun z => absurd (by rw [z]; simp) c4) (x := .int (if decide (0 < b) = true then 1 else 0)) (y := .int (if true = true then 1 else 0)) (by
                rw [and1]
                congr 2
                rw [decide_eq_decide.mpr (show 0 < b ↔ (a ≠ 0 ∧ b ≠ 0) by omega)]) (by
                rw [or1, decide_eq_true (.inl na)])
              refine Rd.dspS (twoRows a b a b (.int (if decide (0 < b) = true then 1 else 0)) (.int (if true = true then 1 else 0))) rfl h3 (by show 14 ≤ 15; decide) (by show List.Nodup (["+", "-", "*", "&", "|", "^", "<", "<=", "~<", "~<=", "==", "!=", "and", "or"] : List Str); decide +kernel) ?_
              walk_at "my rn"
              refine Rd.dgetSo upd_same hz ?_
              walk_at "my rn"
              rw [ez]
              exact q _ (fun b o e => by rw [upd_ne (fun z => by rw [z, nD] at e; cases e)]; exact s3 _ _ (s2 _ _ (s1 _ _ e)))
            · have na : a = 0 := by omega
              walk_at "my rn"
              refine .inr ⟨_, rfl, ?_⟩
              walk_at "my rn"
              rw [decide_eq_false pa]
              walk_at "my rn"
              refine .inr ⟨_, rfl, ?_⟩
              walk_at "my rn"
              obtain ⟨z, hz, ez⟩ := two_val (l := a) (r := b) kb c1 c2 c3 wa wb (fun z => absurd (by rw [z]; simp) c4) (fun z => absurd (by rw [z]; simp) c4) (x := .int (if false = true then 1 else 0)) (y := .int (if decide (0 < b) = true then 1 else 0)) (by
                rw [and1, decide_eq_false (fun z => z.1 na)]) (by
                rw [or1]
                congr 2
                rw [decide_eq_decide.mpr (show 0 < b ↔ (a ≠ 0 ∨ b ≠ 0) by omega)])
              refine Rd.dspS (twoRows a b a b (.int (if false = true then 1 else 0)) (.int (if decide (0 < b) = true then 1 else 0))) rfl h3 (by show 14 ≤ 15; decide) (by show List.Nodup (["+", "-", "*", "&", "|", "^", "<", "<=", "~<", "~<=", "==", "!=", "and", "or"] : List Str); decide +kernel) ?_
              walk_at "my rn"
              refine Rd.dgetSo upd_same hz ?_
              walk_at "my rn"
              rw [ez]
              exact q _ (fun b o e => by rw [upd_ne (fun z => by rw [z, nD] at e; cases e)]; exact s3 _ _ (s2 _ _ (s1 _ _ e)))
          · walk_at "my rn"
            intro D H3 n3 s3 h3
            walk_at "my rn"
            refine ⟨_, _, rfl, rfl, .inl ⟨by omega, by omega⟩, ?_⟩
            walk_at "my rn"
            refine .inr ⟨_, rfl, ?_⟩
            walk_at "my rn"
            refine .inr ⟨_, rfl, ?_⟩
            walk_at "my rn"
            refine .inr ⟨_, rfl, ?_⟩
            walk_at "my rn"
            refine .inr ⟨_, rfl, ?_⟩
            walk_at "my rn"
            refine .inr ⟨_, rfl, ?_⟩
            walk_at "my rn"
            refine .inr ⟨_, rfl, ?_⟩
            walk_at "my rn"
            have nD : H D = none := (s1.trans s2).free n3
            have and1 : comb "and" a b = if decide (a ≠ 0 ∧ b ≠ 0) = true then 1 else 0 := rfl
            have or1 : comb "or" a b = if decide (a ≠ 0 ∨ b ≠ 0) = true then 1 else 0 := rfl
            refine Rd.ifD (fun pa => ?_) (fun pa => ?_)
            · have na : a ≠ 0 := by omega
              walk_at "my rn"
              refine .inr ⟨_, rfl, ?_⟩
              walk_at "my rn"
              rw [decide_eq_true pa]
              walk_at "my rn"
              refine .inr ⟨_, rfl, ?_⟩
              walk_at "my rn"
              obtain ⟨z, hz, ez⟩ := two_val (l := ((a + 2147483648) % 4294967296)) (r := ((b + 2147483648) % 4294967296)) kb c1 c2 c3 wa wb (fun _ => sg_lt wa wb) (fun _ => sg_le wa wb) (x := .int (if decide (0 < b) = true then 1 else 0)) (y := .int (if true = true then 1 else 0)) (by
                rw [and1]
                congr 2
                rw [decide_eq_decide.mpr (show 0 < b ↔ (a ≠ 0 ∧ b ≠ 0) by omega)]) (by
                rw [or1, decide_eq_true (.inl na)])
              refine Rd.dspS (twoRows a b ((a + 2147483648) % 4294967296) ((b + 2147483648) % 4294967296) (.int (if decide (0 < b) = true then 1 else 0)) (.int (if true = true then 1 else 0))) rfl h3 (by show 14 ≤ 15; decide) (by show List.Nodup (["+", "-", "*", "&", "|", "^", "<", "<=", "~<", "~<=", "==", "!=", "and", "or"] : List Str); decide +kernel) ?_
              walk_at "my rn"
              refine Rd.dgetSo upd_same hz ?_
              walk_at "my rn"
              rw [ez]
              exact q _ (fun b o e => by rw [upd_ne (fun z => by rw [z, nD] at e; cases e)]; exact s3 _ _ (s2 _ _ (s1 _ _ e)))
            · have na : a = 0 := by omega
              walk_at "my rn"
              refine .inr ⟨_, rfl, ?_⟩
              walk_at "my rn"
              rw [decide_eq_false pa]
              walk_at "my rn"
              refine .inr ⟨_, rfl, ?_⟩
              walk_at "my rn"
              obtain ⟨z, hz, ez⟩ := two_val (l := ((a + 2147483648) % 4294967296)) (r := ((b + 2147483648) % 4294967296)) kb c1 c2 c3 wa wb (fun _ => sg_lt wa wb) (fun _ => sg_le wa wb) (x := .int (if false = true then 1 else 0)) (y := .int (if decide (0 < b) = true then 1 else 0)) (by
                rw [and1, decide_eq_false (fun z => z.1 na)]) (by
                rw [or1]
                congr 2
                rw [decide_eq_decide.mpr (show 0 < b ↔ (a ≠ 0 ∨ b ≠ 0) by omega)])
              refine Rd.dspS (twoRows a b ((a + 2147483648) % 4294967296) ((b + 2147483648) % 4294967296) (.int (if false = true then 1 else 0)) (.int (if decide (0 < b) = true then 1 else 0))) rfl h3 (by show 14 ≤ 15; decide) (by show List.Nodup (["+", "-", "*", "&", "|", "^", "<", "<=", "~<", "~<=", "==", "!=", "and", "or"] : List Str); decide +kernel) ?_
              walk_at "my rn"
              refine Rd.dgetSo upd_same hz ?_
              walk_at "my rn"
              rw [ez]
              exact q _ (fun b o e => by rw [upd_ne (fun z => by rw [z, nD] at e; cases e)]; exact s3 _ _ (s2 _ _ (s1 _ _ e)))
end

end Mine

set_option Elab.async false
set_option linter.all false
set_option maxRecDepth 100000
set_option maxHeartbeats 1000000


--@@rec _law_expr _law_value
--@@guardsys
namespace Mine
open PySem PySem.Spec PyProof.Rows L2
local macro_rules | `(tactic| walk_at "my rn") => `(tactic| (repeat (first | with_reducible refine Rd.catQI ?_ | with_reducible refine Rd.revN ?_ | with_reducible refine Rd.lzip ?_ | with_reducible refine Rd.fld ?_ | with_reducible refine Rd.sfld ?_ | with_reducible refine Rd.meth ?_ | with_reducible refine Rd.make ?_ | with_reducible refine Rd.izip ?_ | with_reducible refine Rd.ckw ?_ | with_reducible refine Rd.dsetd ?_ | with_reducible refine Rd.ddel ?_ | with_reducible refine Rd.disp ?_ | with_reducible refine Rd.pcons ?_ | with_reducible refine Rd.pnil ?_ | with_reducible refine Rd.dsp ?_ | with_reducible refine Rd.dnew ?_ | with_reducible refine Rd.din ?_ | with_reducible refine Rd.dnot ?_ | with_reducible refine Rd.dget ?_ | with_reducible refine Rd.dget2 ?_ | with_reducible refine Rd.dput ?_ | with_reducible refine Rd.cbDictOf ?_ | with_reducible refine Rd.iitems ?_ | with_reducible refine Rd.ikeys ?_ | with_reducible refine Rd.dc ?_ | with_reducible refine Rd.nwD ?_ | with_reducible refine Rd.tupN ?_ | with_reducible refine Rd.lstN ?_ | with_reducible refine Rd.cbListOf ?_ | with_reducible refine Rd.cbListOfR ?_ | with_reducible refine Rd.catI ?_ | with_reducible refine Rd.slN ?_ | with_reducible refine Rd.cbSrtI ?_ | with_reducible refine Rd.seq ?_ | with_reducible refine Rd.next ?_ | with_reducible refine Rd.brk ?_ | with_reducible refine Rd.cont ?_ | with_reducible refine Rd.asg ?_ | with_reducible refine Rd.ret ?_ | with_reducible refine Rd.retN ?_ | with_reducible refine Rd.drop ?_ | with_reducible refine Rd.ifs ?_ | with_reducible refine Rd.ife ?_ | with_reducible refine Rd.test ?_ | with_reducible refine Rd.tb_ ?_ | with_reducible refine Rd.bl ?_ | with_reducible refine Rd.bl2 ?_ | with_reducible refine Rd.and_ ?_ | with_reducible refine Rd.or_ ?_ | with_reducible refine Rd.not_ ?_ | with_reducible refine Rd.andV ?_ | with_reducible refine Rd.orV ?_ | with_reducible refine Rd.notV ?_ | with_reducible refine Rd.op ?_ | with_reducible refine Rd.un ?_ | with_reducible refine Rd.I0 ?_ | with_reducible refine Rd.U ?_ | with_reducible refine Rd.ip ?_ | with_reducible refine Rd.c_ ?_ | with_reducible refine Rd.nil ?_ | with_reducible refine Rd.cons ?_ | with_reducible refine Rd.call ?_ | with_reducible refine Rd.cb ?_ | with_reducible refine Rd.bm ?_ | with_reducible refine Rd.bm0 ?_ | with_reducible refine Rd.nopart ?_ | with_reducible refine Rd.part ?_ | with_reducible refine Rd.int1 ?_ | with_reducible refine Rd.ints1 ?_ | with_reducible refine Rd.ints2 ?_ | with_reducible refine Rd.gcons ?_ | with_reducible refine Rd.gnil ?_ | with_reducible refine Rd.sub ?_ | with_reducible refine Rd.isN ?_ | with_reducible refine Rd.chain ?_ | with_reducible refine Rd.rf ?_ | with_reducible refine Rd.tyS ?_ | with_reducible refine Rd.intI ?_ | with_reducible refine Rd.lc ?_ | with_reducible refine Rd.for_ ?_ | with_reducible refine Rd.ilist ?_ | with_reducible refine Rd.itup ?_ | with_reducible refine Rd.irng1 ?_ | with_reducible refine Rd.irng2 ?_ | with_reducible refine Rd.ienum ?_ | with_reducible refine Rd.istr ?_ | with_reducible refine Rd.refA ?_ | with_reducible refine Rd.strA ?_ | with_reducible refine Rd.yes ?_ | with_reducible refine Rd.ifT ?_ | with_reducible refine Rd.ifF ?_ | with_reducible refine Rd.ifnT ?_ | with_reducible refine Rd.ifnF ?_ | with_reducible refine Rd.isi_ii ?_ | with_reducible refine Rd.isi_ib ?_ | with_reducible refine Rd.isi_is ?_ | with_reducible refine Rd.isi_il ?_ | with_reducible refine Rd.isi_it ?_ | with_reducible refine Rd.isi_id ?_ | with_reducible refine Rd.isi_bi ?_ | with_reducible refine Rd.isi_bb ?_ | with_reducible refine Rd.isi_bs ?_ | with_reducible refine Rd.isi_bl ?_ | with_reducible refine Rd.isi_bt ?_ | with_reducible refine Rd.isi_bd ?_ | with_reducible refine Rd.isi_si ?_ | with_reducible refine Rd.isi_sb ?_ | with_reducible refine Rd.isi_ss ?_ | with_reducible refine Rd.isi_sl ?_ | with_reducible refine Rd.isi_st ?_ | with_reducible refine Rd.isi_sd ?_ | with_reducible refine Rd.isi_ni ?_ | with_reducible refine Rd.isi_nb ?_ | with_reducible refine Rd.isi_ns ?_ | with_reducible refine Rd.isi_nl ?_ | with_reducible refine Rd.isi_nt ?_ | with_reducible refine Rd.isi_nd ?_ | with_reducible refine Rd.sl ?_ | with_reducible refine Rd.v0 ?_ | with_reducible refine Rd.v1 ?_ | with_reducible refine Rd.v2 ?_ | with_reducible refine Rd.v3 ?_ | with_reducible refine Rd.v4 ?_ | with_reducible refine Rd.v5 ?_ | with_reducible refine Rd.v6 ?_ | with_reducible refine Rd.v7 ?_ | with_reducible refine Rd.v8 ?_ | with_reducible refine Rd.v9 ?_ | with_reducible refine Rd.v10 ?_ | with_reducible refine Rd.v11 ?_ | with_reducible refine Rd.v12 ?_ | with_reducible refine Rd.v13 ?_ | with_reducible refine Rd.v14 ?_ | with_reducible refine Rd.v15 ?_ | with_reducible refine Rd.n0 ?_ | with_reducible refine Rd.n1 ?_ | with_reducible refine Rd.n2 ?_ | with_reducible refine Rd.n3 ?_ | with_reducible refine Rd.n4 ?_ | with_reducible refine Rd.n5 ?_ | with_reducible refine Rd.n6 ?_ | with_reducible refine Rd.n7 ?_ | with_reducible refine Rd.n8 ?_ | with_reducible refine Rd.n9 ?_ | with_reducible refine Rd.n10 ?_ | with_reducible refine Rd.n11 ?_ | with_reducible refine Rd.n12 ?_ | with_reducible refine Rd.n13 ?_ | with_reducible refine Rd.n14 ?_ | with_reducible refine Rd.n15 ?_ | with_reducible refine Rd.g0 ?_ | with_reducible refine Rd.g1 ?_ | with_reducible refine Rd.g2 ?_ | with_reducible refine Rd.g3 ?_ | with_reducible refine Rd.g4 ?_ | with_reducible refine Rd.g5 ?_ | with_reducible refine Rd.g6 ?_ | with_reducible refine Rd.g7 ?_ | with_reducible refine Rd.g8 ?_ | with_reducible refine Rd.g9 ?_ | with_reducible refine Rd.g10 ?_ | with_reducible refine Rd.g11 ?_ | with_reducible refine Rd.g12 ?_ | with_reducible refine Rd.g13 ?_ | with_reducible refine Rd.g14 ?_ | with_reducible refine Rd.g15 ?_ | ((with_reducible apply Rd.glst); (first | assumption | exact upd_same); exact rfl) | ((with_reducible apply Rd.gtP); assumption; assumption) | ((with_reducible apply Rd.revq); first | assumption | exact SqL.of (by assumption)) | ((with_reducible apply Rd.fldI); (first | assumption | exact upd_same); assumption; assumption; (first | assumption | with_unfolding_all rfl)) | ((with_reducible apply Rd.methI); (first | assumption | exact upd_same); (first | assumption | with_unfolding_all rfl)) | ((with_reducible apply Rd.sfldI); (first | assumption | exact upd_same); assumption; assumption; exact Nat.le_of_ble_eq_true rfl) | ((with_reducible apply Rd.maxL); assumption) | ((with_reducible apply Rd.anyL); assumption) | ((with_reducible apply Rd.sumL); assumption) | ((with_reducible refine Rd.izI (by assumption) (by assumption) ?_)) | ((with_reducible refine Rd.eq ?_ ?_); exact rfl) | ((with_reducible refine Rd.ne ?_ ?_); exact rfl) | ((with_reducible refine Rd.szA ?_ ?_); exact Nat.le_of_ble_eq_true rfl) | ((with_reducible refine Rd.I ?_ ?_); first | assumption | decide | exact Or.inr (by decide +kernel) | exact Or.inl (by decide +kernel) | exact ⟨by decide, by decide⟩ | exact ⟨by decide, by decide, by decide⟩ | omega) | ((with_reducible apply Rd.tyL); first | assumption | exact upd_same) | ((with_reducible apply Rd.tyLq); assumption) | ((with_reducible apply Rd.ixL); (first | assumption | exact upd_same); exact rfl) | ((with_reducible apply Rd.ixT); (first | assumption | exact upd_same); exact rfl) | ((with_reducible apply Rd.ixLq); assumption; exact rfl) | ((with_reducible apply Rd.ixTq); assumption; exact rfl) | ((with_reducible apply Rd.gtup); (first | assumption | exact upd_same); exact rfl) | ((with_reducible apply Rd.gtupq); assumption; exact rfl) | ((with_reducible apply Rd.sqAq); assumption) | ((with_reducible apply Rd.stAq); assumption) | ((with_reducible apply Rd.enAq); assumption) | ((with_reducible apply Rd.lenLq); assumption) | ((with_reducible apply Rd.lenTq); assumption) | ((with_reducible apply Rd.sqA); first | assumption | exact upd_same) | ((with_reducible apply Rd.stA); first | assumption | exact upd_same) | ((with_reducible apply Rd.enA); first | assumption | exact upd_same) | ((with_reducible apply Rd.lenL); first | assumption | exact upd_same) | ((with_reducible apply Rd.lenT); first | assumption | exact upd_same) | ((with_reducible refine Rd.nwT ?_ ?_); exact Nat.le_of_ble_eq_true rfl) | ((with_reducible refine Rd.nwL ?_ ?_); exact Nat.le_of_ble_eq_true rfl) | ((with_reducible apply Rd.isd); assumption) | ((with_reducible apply Rd.dictOf); assumption) | ((with_reducible refine Rd.isi_dd (by assumption) ?_)) | ((with_reducible apply Rd.itA); first | assumption | exact upd_same) | ((with_reducible apply Rd.ikA); first | assumption | exact upd_same) | ((with_reducible apply Rd.listOf); assumption) | ((with_reducible apply Rd.listOfq); assumption) | ((with_reducible apply Rd.slo); assumption) | ((with_reducible apply Rd.slq); assumption) | ((with_reducible apply Rd.srtI); assumption) | ((with_reducible apply Rd.srtIo); assumption) | ((with_reducible refine Rd.isi_li (by assumption) ?_)) | ((with_reducible refine Rd.isi_lb (by assumption) ?_)) | ((with_reducible refine Rd.isi_ls (by assumption) ?_)) | ((with_reducible refine Rd.isi_ll (by assumption) ?_)) | ((with_reducible refine Rd.isi_lt (by assumption) ?_)) | ((with_reducible refine Rd.isi_ld (by assumption) ?_)) | ((with_reducible refine Rd.isi_ti (by assumption) ?_)) | ((with_reducible refine Rd.isi_tb (by assumption) ?_)) | ((with_reducible refine Rd.isi_ts (by assumption) ?_)) | ((with_reducible refine Rd.isi_tl (by assumption) ?_)) | ((with_reducible refine Rd.isi_tt (by assumption) ?_)) | ((with_reducible refine Rd.isi_td (by assumption) ?_)))))







section
variable {P : Program} {w : World} {K : PySem.W.Frag} {mg : Str → Option Value} {base : Heap}
theorem inv_word {n : Int} (w : Word n) : alt "inv" n = 4294967295 - n := by
  obtain ⟨m, rfl⟩ : ∃ m : Nat, n = m := ⟨n.toNat, by have := w.1; omega⟩
  show Builtin.bitXor (m : Int) 4294967295 = _
  rw [bitXor_and, bitAnd_pp (by omega) (by decide)]
  have e : (m : Int).toNat &&& (4294967295 : Int).toNat = m % 2 ^ 32 := by
    show m &&& 4294967295 = _
    exact Nat.and_two_pow_sub_one_eq_mod m 32
  rw [e, Nat.mod_eq_of_lt (by have := w.2; omega)]
  omega
abbrev unRows (a : Int) : List (Str × V) := [("neg", .int ((0 - a) % 4294967296)), ("inv", .int (4294967295 - a)), ("not", .int (if decide (V.int a = V.int 0) = true then 1 else 0))]
theorem un_val {k : Str} {a : Int} (h : k ∈ UNS) (w : Word a) : Rd.lks (unRows a) k = some (.int (alt k a)) := by
  simp only [UNS, List.mem_cons, List.mem_nil_iff, or_false] at h
  rcases h with rfl | rfl | rfl
  · have e : alt "neg" a = (0 - a) % 4294967296 := by
      show (-a) % 4294967296 = _
      congr 1; omega
    rw [e]; exact lks_hit
  · rw [inv_word w]
    exact lks_miss (by decide +kernel) lks_hit
  · have e : alt "not" a = if decide (V.int a = V.int 0) = true then 1 else 0 := by
      rw [int_eq]
      show (if a = 0 then (1 : Int) else 0) = _
      by_cases h : a = 0 <;> simp [h]
    rw [e]
    exact lks_miss (by decide +kernel) (lks_miss (by decide +kernel) lks_hit)
def sp__law_value (K : PySem.W.Frag) (n : Nat) : Sp := fun vs H Q _ => ∃ (g : Env) (ρ : Str → List Int) (N : Addr) (v : V) (x : Ex), vs = [v, .ref N] ∧ Dp K H v x.d ∧ ExW g x ∧ x.depth ≤ n + 1 ∧ NmAt H N g ρ ∧ ∀ H', Same H H' → Q (.int (ev ρ x)) H'
theorem step__law_value (T : Top K mg) {d n : Nat} {sp' : Sp} (ih : FnOk P w K mg base CX0 (3 + d) T.a__law_value T.d__law_value ["e", "names"] sp') (imp : ∀ (n' : Nat) vs H Q E, n = n' + 1 → sp__law_value K n' vs H Q E → sp' vs H Q E) :
    FnOk P w K mg base CX0 (3 + d + 1) T.a__law_value T.d__law_value ["e", "names"] (sp__law_value K n) := by
  refine T.F__law_value.ok sc__law_value (fun vs H Q E h => ?_) (fun cdv A outer s H vs Q E hr h => ?_)
  · obtain ⟨_, _, _, _, _, rfl, _⟩ := h
    rfl
  · obtain ⟨g, ρ, N, v, x, rfl, dv, ew, dx, nm, q⟩ := h
    refine ⟨_, (pss_cons (ps_if (pt_cmpR op_eq (pe_ix ix_tup (pv 0) pe_int (fun _ _ => rfl)) pe_str (nomark _))
  (pss_one (ps_ret (pe_ix ix_tup (pv 0) pe_int (fun _ _ => rfl))))
  pss_nil)
  (pss_cons (ps_if (pt_cmpR op_eq (pe_ix ix_tup (pv 0) pe_int (fun _ _ => rfl)) pe_str (nomark _))
  (pss_one (ps_ret (pe_ix ix_list (pe_dget (hu_of hr) (pv 1) (pe_ix ix_tup (pv 0) pe_int (fun _ _ => rfl)) (fun _ _ => rfl)) pe_int (fun _ _ => rfl))))
  pss_nil)
  (pss_cons (ps_if (pt_cmpR op_eq (pe_ix ix_tup (pv 0) pe_int (fun _ _ => rfl)) pe_str (nomark _))
  (pss_cons (ps_set (i := 2) sc__law_value.nd rfl (by first | exact Or.inl rfl | exact Or.inr rfl) (pe_dget (hu_of hr) (pv 1) (pe_ix ix_tup (pv 0) pe_int (fun _ _ => rfl)) (fun _ _ => rfl)))
  (pss_one (ps_ret (pe_ix ix_list (pv 2) (pe_op op_mod (pe_callTy call_int1 (by rfl) T.m_int (by decide +kernel) (pa_cons (pe_call ih (hr.mono (by show _ ≤ 3 + d; omega)) (by rfl) T.g__law_value T.F__law_value.kp T.b__law_value .nil pass0 (pa_cons (pe_ix ix_tup (pv 0) pe_int (fun _ _ => rfl)) (pa_cons (pv 1) pa_nil))) pa_nil)) (pe_callB call_len_seq (by rfl) T.m_len PySem.boot_len (pa_cons (pv 2) pa_nil))) (fun _ _ => rfl)))))
  pss_nil)
  (pss_cons (ps_set (i := 3) sc__law_value.nd rfl (by first | exact Or.inl rfl | exact Or.inr rfl) (pe_call ih (hr.mono (by show _ ≤ 3 + d; omega)) (by rfl) T.g__law_value T.F__law_value.kp T.b__law_value .nil pass0 (pa_cons (pe_ix ix_tup (pv 0) pe_int (fun _ _ => rfl)) (pa_cons (pv 1) pa_nil))))
  (pss_cons (ps_if (pt_cmpR op_in_seq (pe_ix ix_tup (pv 0) pe_int (fun _ _ => rfl)) (pe_lst (pa_cons pe_str (pa_cons pe_str (pa_cons pe_str pa_nil)))) (by with_unfolding_all rfl))
  (pss_one (ps_ret (pe_dget (hu_of hr) (pe_disp (pps_cons pe_str (pe_op op_mod (pe_callTy call_int1 (by rfl) T.m_int (by decide +kernel) (pa_cons (pe_op op_sub pe_int (pv 3)) pa_nil)) pe_int) (pps_cons pe_str (pe_op op_sub pe_int (pv 3)) (pps_cons pe_str (pe_callTy call_int1 (by rfl) T.m_int (by decide +kernel) (pa_cons (pe_cmpR op_eq (pv 3) pe_int (nomark _)) pa_nil)) pps_nil))) (by rfl) (by rfl) (List.cons_ne_nil _ _) (Nat.le_of_ble_eq_true rfl)) (pe_ix ix_tup (pv 0) pe_int (fun _ _ => rfl)) (fun _ _ => rfl))))
  pss_nil)
  (pss_one (ps_ret (pe_call (ok__law_two T) (hr.mono (by show _ ≤ 3 + d; omega)) (by rfl) T.g__law_two T.F__law_two.kp T.b__law_two .nil pass0 (pa_cons (pe_ix ix_tup (pv 0) pe_int (fun _ _ => rfl)) (pa_cons (pv 3) (pa_cons (pe_call ih (hr.mono (by show _ ≤ 3 + d; omega)) (by rfl) T.g__law_value T.F__law_value.kp T.b__law_value .nil pass0 (pa_cons (pe_ix ix_tup (pv 0) pe_int (fun _ _ => rfl)) (pa_cons (pv 1) pa_nil))) pa_nil))))))))))), ?_⟩
    have rec_ : ∀ (Hn : Hp) (u : V) (y : Ex) (R : VK), Dp K H u y.d → ExW g y → 1 + y.depth ≤ n + 1 → Same H Hn → (∀ H', Same H H' → R (.int (ev ρ y)) H') → sp' [u, .ref N] Hn R E0 := fun Hn u y R du wy dy sn hR => by
      have y1 : 1 ≤ y.depth := by cases y <;> simp only [Ex.depth] <;> omega
      exact imp (n - 1) _ Hn R _ (by omega) ⟨g, ρ, N, u, y, rfl, dp_same sn du, wy, by omega, nm.same sn, fun H' s' => hR H' (sn.trans s')⟩
    rw [show ∀ a0 a1 : V, L2.start ["e", "names", "row", "left"] [a0, a1] = [some a0, some a1, none, none] from fun _ _ => rfl]
    cases x with
    | num z =>
      obtain ⟨t, zs, rfl, hx, ha⟩ := dpT dv
      obtain ⟨v0, x0, rfl, d0, ha⟩ := dp1 ha
      obtain ⟨v1, x0, rfl, d1, ha⟩ := dp1 ha
      cases dp0 ha; cases dpS d0; cases dpI d1
      walk_at "my rn"
      refine Rd.ifD (fun _ => ?_) fun z => absurd rfl z
      walk_at "my rn"
      exact q _ (Same.refl _)
    | cell s =>
      obtain ⟨t, zs, rfl, hx, ha⟩ := dpT dv
      obtain ⟨v0, x0, rfl, d0, ha⟩ := dp1 ha
      obtain ⟨v1, x0, rfl, d1, ha⟩ := dp1 ha
      cases dp0 ha; cases dpS d0; cases dpS d1
      have mem : (s, (0 : Int)) ∈ g.cells := ew.resolve_right fun m => by rw [nm.nv] at m; cases m
      obtain ⟨m, hN, f⟩ := nm.ex
      obtain ⟨a, la, hla⟩ := f s 0 mem
      obtain ⟨n1, n2, n3⟩ := nm.ne s 0 mem
      have hg := (getD_word (List.length_pos_iff.mpr n1) n3).1
      have hg2 : ((ρ s).map V.int)[0]? = some (.int ((ρ s).getD 0 0)) := by rw [List.getElem?_map, hg]; rfl
      walk_at "my rn"
      refine Rd.ifD (fun z => absurd (V.str.inj z) (by decide +kernel)) fun _ => ?_
      walk_at "my rn"
      refine Rd.ifD (fun _ => ?_) fun z => absurd rfl z
      walk_at "my rn"
      refine Rd.dgetSo hN la ?_
      walk_at "my rn"
      refine Rd.ixLq (SqL.of hla) (Rd.at_val (j := 0) rfl hg2) ?_
      exact q _ (Same.refl _)
    | «at» s i' =>
      obtain ⟨t, zs, rfl, hx, ha⟩ := dpT dv
      obtain ⟨v0, x0, rfl, d0, ha⟩ := dp1 ha
      obtain ⟨v1, x0, rfl, d1, ha⟩ := dp1 ha
      obtain ⟨v2, x0, rfl, d2, ha⟩ := dp1 ha
      cases dp0 ha; cases dpS d0; cases dpS d1
      obtain ⟨⟨z, _, mem⟩, hi'⟩ := id ew
      obtain ⟨m, hN, f⟩ := nm.ex
      obtain ⟨a, la, hla⟩ := f s z mem
      obtain ⟨n1, n2, n3⟩ := nm.ne s z mem
      have lp := List.length_pos_iff.mpr n1
      walk_at "my rn"
      refine Rd.ifD (fun z => absurd (V.str.inj z) (by decide +kernel)) fun _ => ?_
      walk_at "my rn"
      refine Rd.ifD (fun z => absurd (V.str.inj z) (by decide +kernel)) fun _ => ?_
      walk_at "my rn"
      refine Rd.ifD (fun _ => ?_) fun z => absurd rfl z
      walk_at "my rn"
      refine Rd.dgetSo hN la ?_
      walk_at "my rn"
      refine rec_ H _ i' _ d2 hi' dx (Same.refl _) fun H1 s1 => ?_
      have hla1 := s1 _ _ hla
      have lpp : (0 : Int) < (((ρ s).map V.int).length : Int) := by rw [List.length_map]; omega
      walk_at "my rn"
      rw [List.length_map]
      have b1 := Int.emod_nonneg (ev ρ i') (b := ((ρ s).length : Int)) (by omega)
      have b2 := Int.emod_lt_of_pos (ev ρ i') (b := ((ρ s).length : Int)) (by omega)
      have hg := (getD_word (l := ρ s) (k := (ev ρ i' % ((ρ s).length : Int)).toNat) (by omega) n3).1
      have hg2 : ((ρ s).map V.int)[(ev ρ i' % ((ρ s).length : Int)).toNat]? = some (.int ((ρ s).getD (ev ρ i' % ((ρ s).length : Int)).toNat 0)) := by rw [List.getElem?_map, hg]; rfl
      refine Rd.ixLq (SqL.of hla1) (Rd.at_val (j := (ev ρ i' % ((ρ s).length : Int)).toNat) (by omega) hg2) ?_
      exact q _ s1
    | un k a =>
      obtain ⟨k1, k2, k3⟩ := un_kind (.inl ew.1)
      obtain ⟨t, zs, rfl, hx, ha⟩ := dpT dv
      obtain ⟨v0, x0, rfl, d0, ha⟩ := dp1 ha
      obtain ⟨v1, x0, rfl, d1, ha⟩ := dp1 ha
      cases dp0 ha; cases dpS d0
      walk_at "my rn"
      refine Rd.ifD (fun z => absurd (V.str.inj z) k1) fun _ => ?_
      walk_at "my rn"
      refine Rd.ifD (fun z => absurd (V.str.inj z) k2) fun _ => ?_
      walk_at "my rn"
      refine Rd.ifD (fun z => absurd (V.str.inj z) k3) fun _ => ?_
      walk_at "my rn"
      refine rec_ H _ a _ d1 ew.2 dx (Same.refl _) fun H1 s1 => ?_
      have hx1 := Same.seqT s1 hx
      walk_at "my rn"
      intro L2 H2 n2 s2 h2
      walk_at "my rn"
      refine Rd.inStrs (ns := ["neg", "inv", "not"]) h2 ?_
      rw [decide_eq_true (show k ∈ (["neg", "inv", "not"] : List Str) from ew.1)]
      walk_at "my rn"
      intro D H3 n3 s3 h3
      walk_at "my rn"
      refine .inr ⟨_, rfl, ?_⟩
      walk_at "my rn"
      have nD : H D = none := (s1.trans s2).free n3
      have sU : Same H (upd H3 D (Rd.DS (unRows (ev ρ a)))) := fun b o e => by rw [upd_ne (fun z => by rw [z, nD] at e; cases e)]; exact s3 _ _ (s2 _ _ (s1 _ _ e))
      have hxu := Same.seqT sU hx
      refine Rd.dspS (unRows (ev ρ a)) rfl h3 (by show 3 ≤ 15; decide) (by show List.Nodup (["neg", "inv", "not"] : List Str); decide +kernel) ?_
      walk_at "my rn"
      refine Rd.dgetSo upd_same (un_val ew.1 (ev_word nm ew.2)) ?_
      exact q _ sU
    | bin k a b =>
      obtain ⟨k1, k2, k3⟩ := un_kind (.inr ew.1)
      obtain ⟨t, zs, rfl, hx, ha⟩ := dpT dv
      obtain ⟨v0, x0, rfl, d0, ha⟩ := dp1 ha
      obtain ⟨v1, x0, rfl, d1, ha⟩ := dp1 ha
      obtain ⟨v2, x0, rfl, d2, ha⟩ := dp1 ha
      cases dp0 ha; cases dpS d0
      have d3 : 1 + max a.depth b.depth ≤ n + 1 := dx
      walk_at "my rn"
      refine Rd.ifD (fun z => absurd (V.str.inj z) k1) fun _ => ?_
      walk_at "my rn"
      refine Rd.ifD (fun z => absurd (V.str.inj z) k2) fun _ => ?_
      walk_at "my rn"
      refine Rd.ifD (fun z => absurd (V.str.inj z) k3) fun _ => ?_
      walk_at "my rn"
      refine rec_ H _ a _ d1 ew.2.1 (by omega) (Same.refl _) fun H1 s1 => ?_
      have hx1 := Same.seqT s1 hx
      walk_at "my rn"
      intro L2 H2 n2 s2 h2
      have hx2 := Same.seqT (s1.trans s2) hx
      have nk : ¬ k ∈ (["neg", "inv", "not"] : List Str) := fun m => by
        have : ∀ k ∈ BINS, ¬ k ∈ (["neg", "inv", "not"] : List Str) := by decide +kernel
        exact this k ew.1 m
      walk_at "my rn"
      refine Rd.inStrs (ns := ["neg", "inv", "not"]) h2 ?_
      rw [decide_eq_false nk]
      walk_at "my rn"
      refine rec_ H2 _ b _ d2 ew.2.2 (by omega) (s1.trans s2) fun H3 s3 => ?_
      walk_at "my rn"
      refine ⟨k, _, _, rfl, ew.1, ev_word nm ew.2.1, ev_word nm ew.2.2, fun H4 s4 => ?_⟩
      exact q _ (s3.trans s4)
theorem okd__law_value (T : Top K mg) : ∀ d : Nat, FnOk P w K mg base CX0 (13 + d + 1) T.a__law_value T.d__law_value ["e", "names"] (sp__law_value K d)
  | 0 => step__law_value T (d := 10) (n := 0) (sp' := fun _ _ _ _ => False) ⟨fun _ _ _ _ h => h.elim, fun _ _ _ _ _ _ _ _ _ _ _ _ _ h => h.elim⟩ fun d' _ _ _ _ h => absurd h.symm (Nat.succ_ne_zero d')
  | d + 1 => (step__law_value T (d := 10 + d + 1) (n := d + 1) ((okd__law_value T d).mono (by omega)) fun d' vs H Q E h z => by
    cases h
    exact z).mono (by omega)
theorem ok__law_value (T : Top K mg) : FnOk P w K mg base CX0 20 T.a__law_value T.d__law_value ["e", "names"] (sp__law_value K 5) := (okd__law_value T 5).mono (by decide)
end

end Mine

set_option Elab.async false
set_option linter.all false
set_option maxRecDepth 100000
set_option maxHeartbeats 1000000


--@@rec _law_expr _law_value
--@@guardsys
namespace Mine
open PySem PySem.Spec PyProof.Rows L2
local macro_rules | `(tactic| walk_at "my rn") => `(tactic| (repeat (first | with_reducible refine Rd.catQI ?_ | with_reducible refine Rd.revN ?_ | with_reducible refine Rd.lzip ?_ | with_reducible refine Rd.fld ?_ | with_reducible refine Rd.sfld ?_ | with_reducible refine Rd.meth ?_ | with_reducible refine Rd.make ?_ | with_reducible refine Rd.izip ?_ | with_reducible refine Rd.ckw ?_ | with_reducible refine Rd.dsetd ?_ | with_reducible refine Rd.ddel ?_ | with_reducible refine Rd.disp ?_ | with_reducible refine Rd.pcons ?_ | with_reducible refine Rd.pnil ?_ | with_reducible refine Rd.dsp ?_ | with_reducible refine Rd.dnew ?_ | with_reducible refine Rd.din ?_ | with_reducible refine Rd.dnot ?_ | with_reducible refine Rd.dget ?_ | with_reducible refine Rd.dget2 ?_ | with_reducible refine Rd.dput ?_ | with_reducible refine Rd.cbDictOf ?_ | with_reducible refine Rd.iitems ?_ | with_reducible refine Rd.ikeys ?_ | with_reducible refine Rd.dc ?_ | with_reducible refine Rd.nwD ?_ | with_reducible refine Rd.tupN ?_ | with_reducible refine Rd.lstN ?_ | with_reducible refine Rd.cbListOf ?_ | with_reducible refine Rd.cbListOfR ?_ | with_reducible refine Rd.catI ?_ | with_reducible refine Rd.slN ?_ | with_reducible refine Rd.cbSrtI ?_ | with_reducible refine Rd.seq ?_ | with_reducible refine Rd.next ?_ | with_reducible refine Rd.brk ?_ | with_reducible refine Rd.cont ?_ | with_reducible refine Rd.asg ?_ | with_reducible refine Rd.ret ?_ | with_reducible refine Rd.retN ?_ | with_reducible refine Rd.drop ?_ | with_reducible refine Rd.ifs ?_ | with_reducible refine Rd.ife ?_ | with_reducible refine Rd.test ?_ | with_reducible refine Rd.tb_ ?_ | with_reducible refine Rd.bl ?_ | with_reducible refine Rd.bl2 ?_ | with_reducible refine Rd.and_ ?_ | with_reducible refine Rd.or_ ?_ | with_reducible refine Rd.not_ ?_ | with_reducible refine Rd.andV ?_ | with_reducible refine Rd.orV ?_ | with_reducible refine Rd.notV ?_ | with_reducible refine Rd.op ?_ | with_reducible refine Rd.un ?_ | with_reducible refine Rd.I0 ?_ | with_reducible refine Rd.U ?_ | with_reducible refine Rd.ip ?_ | with_reducible refine Rd.c_ ?_ | with_reducible refine Rd.nil ?_ | with_reducible refine Rd.cons ?_ | with_reducible refine Rd.call ?_ | with_reducible refine Rd.cb ?_ | with_reducible refine Rd.bm ?_ | with_reducible refine Rd.bm0 ?_ | with_reducible refine Rd.nopart ?_ | with_reducible refine Rd.part ?_ | with_reducible refine Rd.int1 ?_ | with_reducible refine Rd.ints1 ?_ | with_reducible refine Rd.ints2 ?_ | with_reducible refine Rd.gcons ?_ | with_reducible refine Rd.gnil ?_ | with_reducible refine Rd.sub ?_ | with_reducible refine Rd.isN ?_ | with_reducible refine Rd.chain ?_ | with_reducible refine Rd.rf ?_ | with_reducible refine Rd.tyS ?_ | with_reducible refine Rd.intI ?_ | with_reducible refine Rd.lc ?_ | with_reducible refine Rd.for_ ?_ | with_reducible refine Rd.ilist ?_ | with_reducible refine Rd.itup ?_ | with_reducible refine Rd.irng1 ?_ | with_reducible refine Rd.irng2 ?_ | with_reducible refine Rd.ienum ?_ | with_reducible refine Rd.istr ?_ | with_reducible refine Rd.refA ?_ | with_reducible refine Rd.strA ?_ | with_reducible refine Rd.yes ?_ | with_reducible refine Rd.ifT ?_ | with_reducible refine Rd.ifF ?_ | with_reducible refine Rd.ifnT ?_ | with_reducible refine Rd.ifnF ?_ | with_reducible refine Rd.isi_ii ?_ | with_reducible refine Rd.isi_ib ?_ | with_reducible refine Rd.isi_is ?_ | with_reducible refine Rd.isi_il ?_ | with_reducible refine Rd.isi_it ?_ | with_reducible refine Rd.isi_id ?_ | with_reducible refine Rd.isi_bi ?_ | with_reducible refine Rd.isi_bb ?_ | with_reducible refine Rd.isi_bs ?_ | with_reducible refine Rd.isi_bl ?_ | with_reducible refine Rd.isi_bt ?_ | with_reducible refine Rd.isi_bd ?_ | with_reducible refine Rd.isi_si ?_ | with_reducible refine Rd.isi_sb ?_ | with_reducible refine Rd.isi_ss ?_ | with_reducible refine Rd.isi_sl ?_ | with_reducible refine Rd.isi_st ?_ | with_reducible refine Rd.isi_sd ?_ | with_reducible refine Rd.isi_ni ?_ | with_reducible refine Rd.isi_nb ?_ | with_reducible refine Rd.isi_ns ?_ | with_reducible refine Rd.isi_nl ?_ | with_reducible refine Rd.isi_nt ?_ | with_reducible refine Rd.isi_nd ?_ | with_reducible refine Rd.sl ?_ | with_reducible refine Rd.v0 ?_ | with_reducible refine Rd.v1 ?_ | with_reducible refine Rd.v2 ?_ | with_reducible refine Rd.v3 ?_ | with_reducible refine Rd.v4 ?_ | with_reducible refine Rd.v5 ?_ | with_reducible refine Rd.v6 ?_ | with_reducible refine Rd.v7 ?_ | with_reducible refine Rd.v8 ?_ | with_reducible refine Rd.v9 ?_ | with_reducible refine Rd.v10 ?_ | with_reducible refine Rd.v11 ?_ | with_reducible refine Rd.v12 ?_ | with_reducible refine Rd.v13 ?_ | with_reducible refine Rd.v14 ?_ | with_reducible refine Rd.v15 ?_ | with_reducible refine Rd.n0 ?_ | with_reducible refine Rd.n1 ?_ | with_reducible refine Rd.n2 ?_ | with_reducible refine Rd.n3 ?_ | with_reducible refine Rd.n4 ?_ | with_reducible refine Rd.n5 ?_ | with_reducible refine Rd.n6 ?_ | with_reducible refine Rd.n7 ?_ | with_reducible refine Rd.n8 ?_ | with_reducible refine Rd.n9 ?_ | with_reducible refine Rd.n10 ?_ | with_reducible refine Rd.n11 ?_ | with_reducible refine Rd.n12 ?_ | with_reducible refine Rd.n13 ?_ | with_reducible refine Rd.n14 ?_ | with_reducible refine Rd.n15 ?_ | with_reducible refine Rd.g0 ?_ | with_reducible refine Rd.g1 ?_ | with_reducible refine Rd.g2 ?_ | with_reducible refine Rd.g3 ?_ | with_reducible refine Rd.g4 ?_ | with_reducible refine Rd.g5 ?_ | with_reducible refine Rd.g6 ?_ | with_reducible refine Rd.g7 ?_ | with_reducible refine Rd.g8 ?_ | with_reducible refine Rd.g9 ?_ | with_reducible refine Rd.g10 ?_ | with_reducible refine Rd.g11 ?_ | with_reducible refine Rd.g12 ?_ | with_reducible refine Rd.g13 ?_ | with_reducible refine Rd.g14 ?_ | with_reducible refine Rd.g15 ?_ | ((with_reducible apply Rd.glst); (first | assumption | exact upd_same); exact rfl) | ((with_reducible apply Rd.gtP); assumption; assumption) | ((with_reducible apply Rd.revq); first | assumption | exact SqL.of (by assumption)) | ((with_reducible apply Rd.fldI); (first | assumption | exact upd_same); assumption; assumption; (first | assumption | with_unfolding_all rfl)) | ((with_reducible apply Rd.methI); (first | assumption | exact upd_same); (first | assumption | with_unfolding_all rfl)) | ((with_reducible apply Rd.sfldI); (first | assumption | exact upd_same); assumption; assumption; exact Nat.le_of_ble_eq_true rfl) | ((with_reducible apply Rd.maxL); assumption) | ((with_reducible apply Rd.anyL); assumption) | ((with_reducible apply Rd.sumL); assumption) | ((with_reducible refine Rd.izI (by assumption) (by assumption) ?_)) | ((with_reducible refine Rd.eq ?_ ?_); exact rfl) | ((with_reducible refine Rd.ne ?_ ?_); exact rfl) | ((with_reducible refine Rd.szA ?_ ?_); exact Nat.le_of_ble_eq_true rfl) | ((with_reducible refine Rd.I ?_ ?_); first | assumption | decide | exact Or.inr (by decide +kernel) | exact Or.inl (by decide +kernel) | exact ⟨by decide, by decide⟩ | exact ⟨by decide, by decide, by decide⟩ | omega) | ((with_reducible apply Rd.tyL); first | assumption | exact upd_same) | ((with_reducible apply Rd.tyLq); assumption) | ((with_reducible apply Rd.ixL); (first | assumption | exact upd_same); exact rfl) | ((with_reducible apply Rd.ixT); (first | assumption | exact upd_same); exact rfl) | ((with_reducible apply Rd.ixLq); assumption; exact rfl) | ((with_reducible apply Rd.ixTq); assumption; exact rfl) | ((with_reducible apply Rd.gtup); (first | assumption | exact upd_same); exact rfl) | ((with_reducible apply Rd.gtupq); assumption; exact rfl) | ((with_reducible apply Rd.sqAq); assumption) | ((with_reducible apply Rd.stAq); assumption) | ((with_reducible apply Rd.enAq); assumption) | ((with_reducible apply Rd.lenLq); assumption) | ((with_reducible apply Rd.lenTq); assumption) | ((with_reducible apply Rd.sqA); first | assumption | exact upd_same) | ((with_reducible apply Rd.stA); first | assumption | exact upd_same) | ((with_reducible apply Rd.enA); first | assumption | exact upd_same) | ((with_reducible apply Rd.lenL); first | assumption | exact upd_same) | ((with_reducible apply Rd.lenT); first | assumption | exact upd_same) | ((with_reducible refine Rd.nwT ?_ ?_); exact Nat.le_of_ble_eq_true rfl) | ((with_reducible refine Rd.nwL ?_ ?_); exact Nat.le_of_ble_eq_true rfl) | ((with_reducible apply Rd.isd); assumption) | ((with_reducible apply Rd.dictOf); assumption) | ((with_reducible refine Rd.isi_dd (by assumption) ?_)) | ((with_reducible apply Rd.itA); first | assumption | exact upd_same) | ((with_reducible apply Rd.ikA); first | assumption | exact upd_same) | ((with_reducible apply Rd.listOf); assumption) | ((with_reducible apply Rd.listOfq); assumption) | ((with_reducible apply Rd.slo); assumption) | ((with_reducible apply Rd.slq); assumption) | ((with_reducible apply Rd.srtI); assumption) | ((with_reducible apply Rd.srtIo); assumption) | ((with_reducible refine Rd.isi_li (by assumption) ?_)) | ((with_reducible refine Rd.isi_lb (by assumption) ?_)) | ((with_reducible refine Rd.isi_ls (by assumption) ?_)) | ((with_reducible refine Rd.isi_ll (by assumption) ?_)) | ((with_reducible refine Rd.isi_lt (by assumption) ?_)) | ((with_reducible refine Rd.isi_ld (by assumption) ?_)) | ((with_reducible refine Rd.isi_ti (by assumption) ?_)) | ((with_reducible refine Rd.isi_tb (by assumption) ?_)) | ((with_reducible refine Rd.isi_ts (by assumption) ?_)) | ((with_reducible refine Rd.isi_tl (by assumption) ?_)) | ((with_reducible refine Rd.isi_tt (by assumption) ?_)) | ((with_reducible refine Rd.isi_td (by assumption) ?_)))))







theorem dec_str (m : Nat) (h : m < 1000000000000000000) : (Str.ofString (toString ((m : Nat) : Int))).length ≤ 18 := by
  rw [SX.num_S m, SX.S_len]
  exact TL.numL_len (k := 18) (by decide) (by omega)
theorem dec_log (m : Nat) (h : m < 1000000000000000000) : ((m : Int).natAbs).log2 < 1920 := by
  by_cases h0 : m = 0
  · subst h0; decide
  · have z : ((m : Int).natAbs) = m := rfl
    rw [z]
    exact Nat.lt_trans ((Nat.log2_lt h0).mpr (show m < 2 ^ 60 by omega)) (by decide)

/-! ### how long data is when it is shown -/
structure Rp (m n : Nat) (d : PyData) : Prop where
  sh : d.showable = true
  nd : d.hasDict = false
  dp : d.depth ≤ m
  ln : d.shown.length ≤ n
structure RpL (m n : Nat) (ds : List PyData) : Prop where
  sh : PyData.showableAll ds = true
  nd : PyData.hasDictAll ds = false
  dp : PyData.depthAll ds ≤ m
  ln : piled (PyData.shownAll ds) ≤ n
theorem Rp.mono {m n m' n' : Nat} {d : PyData} (h : Rp m n d) (h1 : m ≤ m') (h2 : n ≤ n') : Rp m' n' d := ⟨h.sh, h.nd, Nat.le_trans h.dp h1, Nat.le_trans h.ln h2⟩
theorem RpL.mono {m n m' n' : Nat} {d : List PyData} (h : RpL m n d) (h1 : m ≤ m') (h2 : n ≤ n') : RpL m' n' d := ⟨h.sh, h.nd, Nat.le_trans h.dp h1, Nat.le_trans h.ln h2⟩
theorem RpL.nil {m : Nat} : RpL m 0 [] := ⟨rfl, rfl, Nat.zero_le _, Nat.le_refl _⟩
theorem RpL.cons {m n k : Nat} {d : PyData} {ds : List PyData} (h : Rp m n d) (g : RpL m k ds) : RpL m (n + 2 + k) (d :: ds) := by
  refine ⟨?_, ?_, ?_, ?_⟩
  · show (d.showable && PyData.showableAll ds) = true
    rw [h.sh, g.sh]; rfl
  · show (d.hasDict || PyData.hasDictAll ds) = false
    rw [h.nd, g.nd]; rfl
  · show max d.depth (PyData.depthAll ds) ≤ m
    exact Nat.max_le.mpr ⟨h.dp, g.dp⟩
  · show piled (d.shown :: PyData.shownAll ds) ≤ _
    rw [piled_cons]
    have := h.ln
    have := g.ln
    omega
theorem RpL.all {m n : Nat} : ∀ {ds : List PyData}, (∀ d ∈ ds, Rp m n d) → RpL m (ds.length * (n + 2)) ds
  | [], _ => RpL.nil.mono (Nat.le_refl _) (Nat.zero_le _)
  | d :: r, h => by
    refine (RpL.cons (h d (List.mem_cons_self ..)) (RpL.all fun e m => h e (List.mem_cons_of_mem _ m))).mono (Nat.le_refl _) ?_
    rw [List.length_cons, Nat.succ_mul]
    omega
theorem RpL.upto {m n k : Nat} {ds : List PyData} (h : ∀ d ∈ ds, Rp m n d) (l : ds.length ≤ k) : RpL m (k * (n + 2)) ds := (RpL.all h).mono (Nat.le_refl _) (Nat.mul_le_mul l (Nat.le_refl _))
theorem join_len (ts : List Str) : (Str.join ", " ts).length ≤ piled ts := by
  by_cases h : ts = []
  · subst h; exact Nat.le_refl _
  · have := join_length_add ts h
    omega
theorem textFrom_le : ∀ (ts : List Str) (k : Nat) (acc : Str), (textFrom k acc ts).length ≤ acc.length + piled ts
  | [], _, _ => Nat.le_add_right _ _
  | t :: r, k, acc => by
    have h := textFrom_le r (k + 1) (acc ++ (if k > 0 then ", " else "" : String) ++ t)
    have e : (acc ++ (if k > 0 then ", " else "" : String) ++ t).length ≤ acc.length + 2 + t.length := by
      rw [strLen_append, strLen_append]
      split
      · have : ((", " : String) : Str).length = 2 := rfl
        omega
      · have : (("" : String) : Str).length = 0 := rfl
        omega
    rw [piled_cons]
    show (textFrom (k + 1) _ r).length ≤ _
    omega
theorem RpL.tup {m n : Nat} {ds : List PyData} (h : RpL m n ds) : Rp (m + 1) (n + 3) (.tuple ds) := by
  refine ⟨h.sh, h.nd, ?_, ?_⟩
  · show PyData.depthAll ds + 1 ≤ _
    have := h.dp
    omega
  · show (tupleText (PyData.shownAll ds)).length ≤ _
    unfold tupleText
    rw [strLen_append, strLen_append]
    have e1 : ((("(" : String) : Str)).length = 1 := rfl
    have e3 : (((if (PyData.shownAll ds).length == 1 then ",)" else ")" : String) : Str)).length ≤ 2 := by split <;> decide
    have := join_len (PyData.shownAll ds)
    have := h.ln
    omega
theorem RpL.lst {m n : Nat} {ds : List PyData} (h : RpL m n ds) : Rp (m + 1) (n + 3) (.list ds) := by
  refine ⟨h.sh, h.nd, ?_, ?_⟩
  · show PyData.depthAll ds + 1 ≤ _
    have := h.dp
    omega
  · show (listText (PyData.shownAll ds)).length ≤ _
    unfold listText
    rw [strLen_append]
    have := textFrom_le (PyData.shownAll ds) 0 "["
    have e1 : ((("[" : String) : Str)).length = 1 := rfl
    have e2 : ((("]" : String) : Str)).length = 1 := rfl
    have := h.ln
    omega
/-- a short string of plain signs -/
def Ok (k : Nat) (s : Str) : Prop := s.length ≤ k ∧ ∀ c ∈ s.cps.toList, c < 16 ^ 8
instance (k : Nat) (s : Str) : Decidable (Ok k s) := by unfold Ok; infer_instance
theorem Rp.str {k : Nat} {s : Str} (h : Ok k s) : Rp 0 (10 * k + 2) (.str s) := ⟨rfl, rfl, Nat.le_refl _, by
  show (reprText s).length ≤ _
  have := StrLaws.reprText_len s h.2
  have := h.1
  omega⟩
theorem Rp.none {m n : Nat} (h : 4 ≤ n) : Rp m n .none := ⟨rfl, rfl, Nat.zero_le _, h⟩
theorem Rp.nat {i : Int} (h0 : 0 ≤ i) (h1 : i < 4294967296) : Rp 0 52 (.int i) := by
  obtain ⟨n, rfl⟩ : ∃ n : Nat, i = n := ⟨i.toNat, by omega⟩
  refine ⟨decide_eq_true (dec_log n (by omega)), rfl, Nat.le_refl _, ?_⟩
  have := dec_str n (by omega)
  show (Str.ofString (toString ((n : Nat) : Int))).length ≤ 52
  omega
theorem kv_rp {m a b : Nat} : ∀ {kvs : List (PyData × PyData)}, (∀ q ∈ kvs, Rp m a q.1 ∧ Rp m b q.2) → PyData.showableKv kvs = true ∧ PyData.depthKv kvs ≤ m ∧ piled (PyData.shownKv kvs) ≤ kvs.length * (a + b + 4)
  | [], _ => ⟨rfl, Nat.zero_le _, Nat.zero_le _⟩
  | (k, v) :: r, h => by
    obtain ⟨h1, h2, h3⟩ := kv_rp fun q mq => h q (List.mem_cons_of_mem _ mq)
    obtain ⟨hk, hv⟩ := h (k, v) (List.mem_cons_self ..)
    refine ⟨?_, ?_, ?_⟩
    · show (k.showable && v.showable && PyData.showableKv r) = true
      rw [hk.sh, hv.sh, h1]; rfl
    · show max (max k.depth v.depth) (PyData.depthKv r) ≤ m
      have q1 : k.depth ≤ m := hk.dp
      have q2 : v.depth ≤ m := hv.dp
      omega
    · show piled ((k.shown ++ ": " ++ v.shown) :: PyData.shownKv r) ≤ _
      rw [piled_cons, strLen_append, strLen_append, List.length_cons, Nat.succ_mul]
      have e : ((": " : String) : Str).length = 2 := rfl
      have q1 : k.shown.length ≤ a := hk.ln
      have q2 : v.shown.length ≤ b := hv.ln
      omega
theorem nm_rp {m : List (Str × Addr × List Int)} (h4 : m.length ≤ 4) (hk : ∀ q ∈ m, Ok 5 q.1) (hw : ∀ q ∈ m, q.2.2.length ≤ 100 ∧ ∀ x ∈ q.2.2, Word x) : (nmD m).showable = true ∧ (nmD m).depth ≤ 64 ∧ (nmD m).shown.length ≤ sizeLine := by
  obtain ⟨h1, h2, h3⟩ := kv_rp (m := 1) (a := 52) (b := 5403) (kvs := m.map fun p => (.str p.1, .list (p.2.2.map PyData.int))) fun q mq => by
    obtain ⟨p, mp, rfl⟩ := List.mem_map.mp mq
    refine ⟨(Rp.str (hk p mp)).mono (Nat.zero_le _) (by decide), ?_⟩
    obtain ⟨l, ww⟩ := hw p mp
    exact (RpL.upto (m := 0) (n := 52) (k := 100) (fun d md => by
      obtain ⟨z, mz, rfl⟩ := List.mem_map.mp md
      exact Rp.nat (ww z mz).1 (ww z mz).2) (by rw [List.length_map]; exact l)).lst.mono (by decide) (by decide)
  refine ⟨h1, ?_, ?_⟩
  · show PyData.depthKv _ + 1 ≤ 64
    omega
  · show (dictText _).length ≤ sizeLine
    unfold dictText
    rw [strLen_append, strLen_append]
    have e1 : ((("{" : String) : Str)).length = 1 := rfl
    have e2 : ((("}" : String) : Str)).length = 1 := rfl
    have h5 := join_len (PyData.shownKv (m.map fun p => (.str p.1, .list (p.2.2.map PyData.int))))
    rw [List.length_map] at h3
    have : m.length * (52 + 5403 + 4) ≤ 4 * (52 + 5403 + 4) := Nat.mul_le_mul h4 (Nat.le_refl _)
    have e3 : sizeLine = 16777216 := rfl
    omega

/-- a comprehension over a range whose elements are drawn ints -/
theorem lc_draw {n : Nat} {g : TG} {te : TE} {vs : List Nat} {σ : L2.St} {H1 : Hp} {D p c : Addr} {Qd : Hp → Prop} (G : Int → Prop) (st : StOk H1 p c) (nD : H1 D = none) (hn : n ≤ 90000)
    (hs : ∀ (i : Nat) H (Kt : VK), i < n → StOk H p c → (∀ v H4, G v → StOk H4 p c → Keep p c H H4 → Kt (.int v) H4) → g (.int (i : Int)) (wipe σ vs) H fun σ2 H2 => wipe σ2 vs = wipe σ vs ∧ te σ2 H2 Kt)
    (hd : ∀ H (ns : List Int), ns.length = n → (∀ v ∈ ns, G v) → StOk H p c → Keep p c H1 H → H D = some (.lst (ns.map V.int)) → Qd H) :
    ∃ W : Nat → Nat → Hp → Prop, (∃ m, W 0 m (upd H1 D (.lst []))) ∧ ∀ i m H, W i m H →
      ((Itr 0 n).stop i H ∧ Qd H) ∨ ((Itr 0 n).go i H ∧ ∃ Nx : Hp → Prop, (∀ H', Nx H' → ∃ m', m' < m ∧ W (i + 1) m' H') ∧ ∀ x H', (Itr 0 n).yld i H x H' → g x (wipe σ vs) H' fun σ2 H2 => wipe σ2 vs = wipe σ vs ∧ tYes σ2 H2 fun b H3 =>
        if b = true then te σ2 H3 fun y H4 => ∃ acc, H4 D = some (.lst acc) ∧ acc.length < sizeLine ∧ Nx (upd H4 D (.lst (acc ++ [y]))) else Nx H3) := by
  have pD := st.ne nD
  have stk : ∀ {H H' : Hp} {o : HO}, StOk H' p c → StOk (upd H' D o) p c := fun s => by
    obtain ⟨ms, sd, a, b, d, r⟩ := s
    exact ⟨ms, sd, a, by rw [upd_ne pD.1.symm]; exact b, by rw [upd_ne pD.2.symm]; exact d, r⟩
  refine lc_it walk_range (fun i H => ∃ ns : List Int, ns.length = i ∧ (∀ v ∈ ns, G v) ∧ StOk H p c ∧ Keep p c H1 H ∧ H D = some (.lst (ns.map V.int))) ⟨[], rfl, by simp, stk (H := H1) st, Keep.same (same_new nD), upd_same⟩ (fun _ _ _ _ => trivial) (fun i x H H' hi h y => ?_) (fun H ⟨ns, a, b, d, e, f⟩ => hd H ns a b d e f)
  obtain ⟨ns, ln, gn, s1, k1, hD⟩ := h
  obtain ⟨rfl, e⟩ := Rd.zr y
  subst e
  refine hs i _ _ hi s1 fun v H4 gv s4 k4 => ?_
  have hD4 := k4 _ _ pD.1 pD.2 hD
  refine ⟨_, hD4, Rd.szl (by rw [List.length_map]; omega), ns ++ [v], by simp [ln], fun u m => ?_, stk (H := H4) s4, fun b o n1 n2 h => ?_, by rw [upd_same, List.map_append]; rfl⟩
  · rcases List.mem_append.mp m with m | m
    · exact gn u m
    · rw [List.mem_singleton.mp m]; exact gv
  · have nb : b ≠ D := fun z => by rw [z, nD] at h; cases h
    rw [upd_ne nb]
    exact k4 b o n1 n2 (k1 b o n1 n2 h)

def NMS : List Str := ["first", "row", "x", "y"]
structure NmG (p c N : Addr) (i : Nat) (H H' : Hp) (m : List (Str × Addr × List Int)) : Prop where
  hN : H' N = some (Rd.DS (m.map fun q => (q.1, V.ref q.2.1)))
  ks : m.map (·.1) = NMS.take i
  at_ : ∀ q ∈ m, H' q.2.1 = some (.lst (q.2.2.map V.int)) ∧ q.2.1 ≠ p ∧ q.2.1 ≠ c ∧ q.2.1 ≠ N
  ok : ∀ q ∈ m, q.2.2 ≠ [] ∧ q.2.2.length ≤ 100 ∧ ∀ x ∈ q.2.2, Word x
  st : StOk H' p c
  kp : ∀ b o, b ≠ p → b ≠ c → b ≠ N → H b = some o → H' b = some o
theorem stk_upd {p c a : Addr} {H : Hp} {o : HO} (s : StOk H p c) (n1 : a ≠ p) (n2 : a ≠ c) : StOk (upd H a o) p c := by
  obtain ⟨ms, sd, a, b, d, r⟩ := s
  exact ⟨ms, sd, a, by rw [upd_ne n1.symm]; exact b, by rw [upd_ne n2.symm]; exact d, r⟩
theorem StOk.ne' {p c a : Addr} {H : Hp} {xs : List V} (s : StOk H p c) (h : H a = some (.tup xs)) : a ≠ p ∧ a ≠ c := by
  obtain ⟨ms, sd, _, hp, hc, _⟩ := s
  exact ⟨fun z => (by rw [z, hp] at h; cases h), fun z => (by rw [z, hc] at h; cases h)⟩
def Only (p c : Addr) (H : Hp) : Hp := fun a => if a = p ∨ a = c then H a else none
theorem Only.off {p c a : Addr} {He : Hp} (h1 : a ≠ p) (h2 : a ≠ c) : Only p c He a = none := by
  unfold Only
  rw [if_neg (by rintro (z | z); exact h1 z; exact h2 z)]
theorem Only.at {p c : Addr} {He : Hp} (h1 : ∃ x, He p = some x) (h2 : ∃ x, He c = some x) : (∃ x, Only p c He p = some x) ∧ ∃ x, Only p c He c = some x := by
  unfold Only
  rw [if_pos (.inl rfl), if_pos (.inr rfl)]
  exact ⟨h1, h2⟩
theorem new_only {p c a : Addr} {H : Hp} {x : HO} (h1 : a ≠ p) (h2 : a ≠ c) (h : H a = some x) : New (Only p c H) H a = some x := New.of (Only.off h1 h2) h
theorem Here.self {p c : Addr} {H : Hp} (st : StOk H p c) : Here (Only p c H) H H p c := ⟨st, (Only.at st.there.1 st.there.2).1, (Only.at st.there.1 st.there.2).2, st.there.1, st.there.2, Dom.refl H⟩
theorem four {α : Type} : ∀ {m : List α}, m.length = 4 → ∃ a b c d, m = [a, b, c, d]
  | [a, b, c, d], _ => ⟨a, b, c, d, rfl⟩
theorem nm_at {p c N : Addr} {H7 H8 : Hp} {m : List (Str × Addr × List Int)} {sz : Int} (g : NmG p c N 4 H7 H8 m) : ∃ ρ, ∀ H', H' N = H8 N → (∀ q ∈ m, H' q.2.1 = H8 q.2.1) → NmAt H' N ⟨[("first", 0), ("row", sz), ("x", 0), ("y", 2)], [], [], [], 0⟩ ρ := by
  have gks : m.map (·.1) = NMS := g.ks
  have hN := g.hN
  have l4 : m.length = 4 := by
    have := congrArg List.length gks
    rw [List.length_map] at this
    exact this
  obtain ⟨q0, q1, q2, q3, e⟩ := four l4
  have m0 : q0 ∈ m := by rw [e]; simp
  have g0 := g.at_ q0 m0
  have m1 : q1 ∈ m := by rw [e]; simp
  have g1 := g.at_ q1 m1
  have m2 : q2 ∈ m := by rw [e]; simp
  have g2 := g.at_ q2 m2
  have m3 : q3 ∈ m := by rw [e]; simp
  have g3 := g.at_ q3 m3
  have o0 := g.ok q0 (by rw [e]; simp)
  have o1 := g.ok q1 (by rw [e]; simp)
  have o2 := g.ok q2 (by rw [e]; simp)
  have o3 := g.ok q3 (by rw [e]; simp)
  rw [e] at gks
  rw [show m.map (fun q => (q.1, V.ref q.2.1)) = [(q0.1, .ref q0.2.1), (q1.1, .ref q1.2.1), (q2.1, .ref q2.2.1), (q3.1, .ref q3.2.1)] from by rw [e]; rfl] at hN
  have gks : [q0.1, q1.1, q2.1, q3.1] = NMS := gks
  clear e l4 g
  unfold NMS at gks
  injection gks with e0 gks
  injection gks with e1 gks
  injection gks with e2 gks
  injection gks with e3 _
  have n1 : ¬ (("row" : Str) = "first") := by decide +kernel
  have n2 : ¬ (("x" : Str) = "first") := by decide +kernel
  have n3 : ¬ (("x" : Str) = "row") := by decide +kernel
  have n4 : ¬ (("y" : Str) = "first") := by decide +kernel
  have n5 : ¬ (("y" : Str) = "row") := by decide +kernel
  have n6 : ¬ (("y" : Str) = "x") := by decide +kernel
  refine ⟨fun s => if s = "first" then q0.2.2 else if s = "row" then q1.2.2 else if s = "x" then q2.2.2 else q3.2.2, fun H' hN' ha => ⟨⟨[(q0.1, .ref q0.2.1), (q1.1, .ref q1.2.1), (q2.1, .ref q2.2.1), (q3.1, .ref q3.2.1)], hN'.trans hN, fun s z ms => ?_⟩, fun s z ms => ?_, rfl⟩⟩
  · simp only [List.mem_cons, List.mem_nil_iff, or_false, Prod.mk.injEq] at ms
    rw [e0, e1, e2, e3]
    rcases ms with ⟨rfl, _⟩ | ⟨rfl, _⟩ | ⟨rfl, _⟩ | ⟨rfl, _⟩
    · exact ⟨q0.2.1, lks_hit, by rw [if_pos rfl]; exact (ha q0 m0).trans g0.1⟩
    · exact ⟨q1.2.1, lks_miss (Ne.symm n1) lks_hit, by rw [if_neg n1, if_pos rfl]; exact (ha q1 m1).trans g1.1⟩
    · exact ⟨q2.2.1, lks_miss (Ne.symm n2) (lks_miss (Ne.symm n3) lks_hit), by rw [if_neg n2, if_neg n3, if_pos rfl]; exact (ha q2 m2).trans g2.1⟩
    · exact ⟨q3.2.1, lks_miss (Ne.symm n4) (lks_miss (Ne.symm n5) (lks_miss (Ne.symm n6) lks_hit)), by rw [if_neg n4, if_neg n5, if_neg n6]; exact (ha q3 m3).trans g3.1⟩
  · simp only [List.mem_cons, List.mem_nil_iff, or_false, Prod.mk.injEq] at ms
    rcases ms with ⟨rfl, _⟩ | ⟨rfl, _⟩ | ⟨rfl, _⟩ | ⟨rfl, _⟩
    · rw [if_pos rfl]; exact o0
    · rw [if_neg n1, if_pos rfl]; exact o1
    · rw [if_neg n2, if_neg n3, if_pos rfl]; exact o2
    · rw [if_neg n4, if_neg n5, if_neg n6]; exact o3
section
variable {P : Program} {w : World} {K : PySem.W.Frag} {mg : Str → Option Value} {base : Heap}
def sp_law (K : PySem.W.Frag) : Sp := fun vs H Q _ => ∃ (a : Addr) (ns : List Int), vs = [.ref a] ∧ SqL K H a (ns.map V.int) ∧ ns.length ≤ 63 ∧ ∀ H', Q (.bl true) H'
theorem ok_law (T : Top K mg) : FnH P w K mg base 21 T.a_law T.d_law ["script"]  (sp_law K) := by
  refine T.F_law.okH sc_law (fun vs H Q E h => ?_) (fun cdv A outer s H vs Q E gA gS hr h => ?_)
  · obtain ⟨_, _, rfl, _⟩ := h
    rfl
  · obtain ⟨l, ns, rfl, hS, hlen, q⟩ := h
    refine ⟨_, (pss_cons (ps_set (i := 1) sc_law.nd rfl (by first | exact Or.inl rfl | exact Or.inr rfl) (pe_call (ok__law_state T) (hr.mono (by decide)) (by rfl) T.g__law_state T.F__law_state.kp T.b__law_state .nil pass0 (pa_cons (pv 0) pa_nil)))
  (pss_cons (ps_set (i := 2) sc_law.nd rfl (by first | exact Or.inl rfl | exact Or.inr rfl) (pe_lst (pa_cons (pe_tup (pa_cons pe_str (pa_cons pe_int pa_nil))) (pa_cons (pe_tup (pa_cons pe_str (pa_cons (pe_op op_add pe_int (pe_call (ok__law_draw T) (hr.mono (by decide)) (by rfl) T.g__law_draw T.F__law_draw.kp T.b__law_draw .nil pass0 (pa_cons (pv 1) (pa_cons pe_int pa_nil)))) pa_nil))) (pa_cons (pe_tup (pa_cons pe_str (pa_cons pe_int pa_nil))) (pa_cons (pe_tup (pa_cons pe_str (pa_cons pe_int pa_nil))) pa_nil))))))
  (pss_cons (ps_set (i := 3) sc_law.nd rfl (by first | exact Or.inl rfl | exact Or.inr rfl) pe_dnewK)
  (pss_cons (ps_for PassesOwn.never rfl (pi_list (pv 2)) (pg_tup rfl (pgs_cons (pg_name (i := 4) sc_law.nd rfl (by first | exact Or.inl rfl | exact Or.inr rfl)) (pgs_cons (pg_name (i := 5) sc_law.nd rfl (by first | exact Or.inl rfl | exact Or.inr rfl)) pgs_nil)))
  (pss_one (ps_dput (hu_of hr) (pv 3) (pv 4) (pe_lc (own := [("k", 6)]) (g := gName 6) (tt := tYes) rfl sc_law.nd (pi_range1 (by rfl) T.m_range (pa_cons (pe_callB (call_max2 rfl) (by rfl) T.m_max (by decide +kernel) (pa_cons pe_int (pa_cons (pv 5) pa_nil))) pa_nil)) (blkOk_by (N := ["script", "state", "cells", "names", "name", "size", "k", "before", "e", "due", "actual"]) (sc := defScope s_law) (by decide +kernel)) (fun _ _ _ _ _ => pg_name (i := 6) sc_law.nd rfl (Or.inl rfl)) (fun _ _ _ _ _ => pts_nil) (fun _ _ _ _ _ => (pe_call (ok__law_word T) (hr.mono (by decide)) (by rfl) T.g__law_word T.F__law_word.kp T.b__law_word .nil pass0 (pa_cons (pv 1) pa_nil)))) rfl)))
  (pss_cons (ps_set (i := 7) sc_law.nd rfl (by first | exact Or.inl rfl | exact Or.inr rfl) (pe_callB (cr_reprN gS gA (room70 hr)) (by rfl) T.m_repr (by decide +kernel) (pa_cons (pv 3) pa_nil)))
  (pss_cons (ps_for PassesOwn.never rfl (pi_range1 (by rfl) T.m_range (pa_cons pe_int pa_nil)) (pg_name (i := 6) sc_law.nd rfl (by first | exact Or.inl rfl | exact Or.inr rfl))
  (pss_cons (ps_set (i := 8) sc_law.nd rfl (by first | exact Or.inl rfl | exact Or.inr rfl) (pe_call (ok__law_expr T) (hr.mono (by decide)) (by rfl) T.g__law_expr T.F__law_expr.kp T.b__law_expr .nil pass0 (pa_cons (pv 1) (pa_cons (pe_lst (pa_cons (pv 2) (pa_cons (pe_lst pa_nil) (pa_cons (pe_lst pa_nil) (pa_cons (pe_lst pa_nil) (pa_cons pe_int pa_nil)))))) (pa_cons (pe_op op_add pe_int (pe_call (ok__law_draw T) (hr.mono (by decide)) (by rfl) T.g__law_draw T.F__law_draw.kp T.b__law_draw .nil pass0 (pa_cons (pv 1) (pa_cons pe_int pa_nil)))) pa_nil)))))
  (pss_cons (ps_set (i := 9) sc_law.nd rfl (by first | exact Or.inl rfl | exact Or.inr rfl) (pe_call (ok__law_value T) (hr.mono (by decide)) (by rfl) T.g__law_value T.F__law_value.kp T.b__law_value .nil pass0 (pa_cons (pv 8) (pa_cons (pv 3) pa_nil))))
  (pss_cons (ps_set (i := 10) sc_law.nd rfl (by first | exact Or.inl rfl | exact Or.inr rfl) (pe_call (ok_evaluate T) (hr.mono (by decide)) (by rfl) T.g_evaluate T.F_evaluate.kp T.b_evaluate .nil pass0 (pa_cons (pv 8) (pa_cons (pv 3) pa_nil))))
  (pss_one (ps_if (pw_or (pt_not (pt_val (pe_callB call_isi (by rfl) T.m_isinstance (by decide +kernel) (pa_cons (pv 10) (pa_cons (pe_ty (T := "int") (by rfl) T.m_int (by decide +kernel)) pa_nil))))) (pw_or (pt_val (pe_callB call_isi (by rfl) T.m_isinstance (by decide +kernel) (pa_cons (pv 10) (pa_cons (pe_ty (T := "bool") (by rfl) T.m_bool (by decide +kernel)) pa_nil)))) (pw_or1 (pt_cmpR op_ne (pv 10) (pv 9) (nomark _))))).pt
  (pss_one (ps_ret pe_bl))
  pss_nil))))))
  (pss_one (ps_ret (pe_cmpR op_eq (pe_callB (cr_reprN gS gA (room70 hr)) (by rfl) T.m_repr (by decide +kernel) (pa_cons (pv 3) pa_nil)) (pv 7) (nomark _)))))))))), ?_⟩
    rw [show ∀ a0 : V, L2.start ["script", "state", "cells", "names", "name", "size", "k", "before", "e", "due", "actual"] [a0] = [some a0, none, none, none, none, none, none, none, none, none, none] from fun _ => rfl]
    walk_at "my rn"
    refine ⟨l, ns, rfl, hS, hlen, fun H0 p c s0 np nc st0 => ?_⟩
    walk_at "my rn"
    intro t0 H1 n1 s1 h1
    walk_at "my rn"
    refine ⟨p, c, 64, rfl, st0.same s1, by decide, by decide, fun sz H2 z0 z1 st2 k2 => ?_⟩
    walk_at "my rn"
    intro t1 H3 n3 s3 h3
    walk_at "my rn"
    intro t2 H4 n4 s4 h4
    walk_at "my rn"
    intro t3 H5 n5 s5 h5
    walk_at "my rn"
    intro C H6 n6 s6 h6
    walk_at "my rn"
    intro N H7 nN s7 hN
    have st7 := st2.same (s3.trans (s4.trans (s5.trans (s6.trans s7))))
    have ne0 := (st0).ne n1
    have hC7 := s7 _ _ h6
    have ht0 : H7 t0 = some (.tup [.str "first", .int 0]) := s7 _ _ (s6 _ _ (s5 _ _ (s4 _ _ (s3 _ _ (k2 _ _ ne0.1 ne0.2 h1)))))
    have ht1 := s7 _ _ (s6 _ _ (s5 _ _ (s4 _ _ h3)))
    have ht2 := s7 _ _ (s6 _ _ (s5 _ _ h4))
    have ht3 := s7 _ _ (s6 _ _ h5)
    have cellAt : ∀ (i : Nat) x, ([.ref t0, .ref t1, .ref t2, .ref t3] : List V)[i]? = some x → ∃ (t : Addr) (nm : Str) (z : Int), x = .ref t ∧ H7 t = some (.tup [.str nm, .int z]) ∧ NMS[i]? = some nm ∧ 0 ≤ z ∧ z ≤ 64 ∧ nm ∉ NMS.take i := fun i x h => by
      match i with
      | 0 => cases h; exact ⟨t0, _, _, rfl, ht0, rfl, by decide, by decide, by decide +kernel⟩
      | 1 => cases h; exact ⟨t1, _, _, rfl, ht1, rfl, by omega, by omega, by decide +kernel⟩
      | 2 => cases h; exact ⟨t2, _, _, rfl, ht2, rfl, by decide, by decide, by decide +kernel⟩
      | 3 => cases h; exact ⟨t3, _, _, rfl, ht3, rfl, by decide, by decide, by decide +kernel⟩
      | n + 4 => simp at h
    have pN := (st2.same (s3.trans (s4.trans (s5.trans s6)))).ne nN
    have pC := (st2.same (s3.trans (s4.trans s5))).ne n6
    have CN : C ≠ N := fun z => by rw [← z, h6] at nN; cases nN
    walk_at "my rn"
    refine for_it (walk_list (xs := [.ref t0, .ref t1, .ref t2, .ref t3])) (fun i σ H' => ∃ (m : List (Str × Addr × List Int)) (y4 y5 y6 : Option V), σ = [some (.ref l), some (.ref p), some (.ref C), some (.ref N), y4, y5, y6, none, none, none, none] ∧ NmG p c N i H7 H' m)
      ⟨[], none, none, none, rfl, hN, rfl, by simp, by simp, st7, fun _ _ _ _ _ e => e⟩ (fun i σ H' _ ⟨_, _, _, _, _, h⟩ => SqL.of (h.kp _ _ pC.1 pC.2 CN hC7)) ?_ ?_
    · rintro i x σ H8o H8 hi ⟨m, y4, y5, y6, rfl, g⟩ ⟨rfl, hx⟩
      obtain ⟨t, nm, z, rfl, ht, hnm, z0, z64, fresh⟩ := cellAt i x hx
      have ht8 := SqT.of (K := K) (g.kp _ _ (st7.ne' ht).1 (st7.ne' ht).2 (fun z => by rw [z, hN] at ht; cases ht) ht)
      have st8 := g.st
      have lm : m.length = i := by
        have := congrArg List.length g.ks
        rw [List.length_map, List.length_take] at this
        have : NMS.length = 4 := rfl
        have hi : i < 4 := hi
        omega
      walk_at "my rn"
      refine ⟨by split <;> omega, by split <;> omega, fun D nD => ?_⟩
      obtain ⟨cnt, hcnt, c1, c64⟩ : ∃ cnt : Nat, (if z > 1 then z else 1).toNat = cnt ∧ 1 ≤ cnt ∧ cnt ≤ 64 := ⟨_, rfl, by split <;> omega, by split <;> omega⟩
      rw [hcnt]
      have pD := st8.ne nD
      have DN : D ≠ N := fun z => by rw [z, g.hN] at nD; cases nD
      refine lc_draw Word st8 nD (by omega) (fun j Hx Kt hj stx kt => ?_) (fun H9 ws lw gw st9 k9 hD => ?_)
      · simp only [List.map_cons, List.map_nil, L2.wipe, List.set_cons_succ, List.set_cons_zero]
        walk_at "my rn"
        refine ⟨rfl, ?_⟩
        walk_at "my rn"
        exact ⟨p, c, rfl, stx, fun n Hy wn sty ky => kt _ _ wn sty ky⟩
      · have hN9 := k9 _ _ pN.1 pN.2 g.hN
        have tk : NMS.take (i + 1) = NMS.take i ++ [nm] := by rw [List.take_add_one, hnm]; rfl
        walk_at "my rn"
        refine Rd.dputS hN9 (fun q mq z => fresh ?_) (by rw [List.length_map]; have hi4 : i < 4 := hi; omega) ?_
        · obtain ⟨r, mr, rfl⟩ := List.mem_map.mp mq
          rw [← g.ks, ← z]
          exact List.mem_map_of_mem mr
        · refine ⟨m ++ [(nm, D, ws)], _, _, _, rfl, ⟨by rw [upd_same, List.map_append]; rfl, by rw [List.map_append, g.ks, tk]; rfl, fun q mq => ?_, fun q mq => ?_, stk_upd st9 pN.1 pN.2, fun b o n1 n2 n3 e => ?_⟩⟩
          · rcases List.mem_append.mp mq with mq | mq
            · obtain ⟨a1, a2, a3, a4⟩ := g.at_ q mq
              exact ⟨by rw [upd_ne a4]; exact k9 _ _ a2 a3 a1, a2, a3, a4⟩
            · rw [List.mem_singleton.mp mq]
              exact ⟨by rw [upd_ne DN]; exact hD, pD.1, pD.2, DN⟩
          · rcases List.mem_append.mp mq with mq | mq
            · exact g.ok q mq
            · rw [List.mem_singleton.mp mq]
              exact ⟨fun z => (by have z : ws = [] := z; rw [z] at lw; simp at lw; omega), by show ws.length ≤ 100; omega, gw⟩
          · rw [upd_ne n3]
            exact k9 _ _ n1 n2 (g.kp b o n1 n2 n3 e)
    · rintro σ H8 ⟨m, y4, y5, y6, rfl, g⟩
      have gks : m.map (·.1) = NMS := g.ks
      have l4 : m.length = 4 := by
        have := congrArg List.length gks
        rw [List.length_map] at this
        exact this
      have hN8 : H8 N = some (.dK (m.map fun q => (Sum.inr q.1, V.ref q.2.1))) := by rw [g.hN]; show some (HO.dK ((m.map _).map Rd.kS)) = _; rw [List.map_map]; rfl
      have nmsOk : ∀ s ∈ NMS, Ok 5 s := by decide +kernel
      obtain ⟨r1, r2, r3⟩ := nm_rp (m := m) (by omega) (fun q mq => nmsOk _ (by rw [← gks]; exact List.mem_map_of_mem mq)) fun q mq => (g.ok q mq).2
      walk_at "my rn"
      refine ⟨N, m, rfl, hN8, fun q mq => (g.at_ q mq).1, r1, r2, r3, ?_⟩
      walk_at "my rn"
      obtain ⟨gE, egE⟩ : ∃ gE : Env, gE = ⟨[("first", 0), ("row", 1 + sz), ("x", 0), ("y", 2)], [], [], [], 0⟩ := ⟨_, rfl⟩
      obtain ⟨ρ, hρ⟩ : ∃ ρ : Str → List Int, ∀ H', H' N = H8 N → (∀ q ∈ m, H' q.2.1 = H8 q.2.1) → NmAt H' N gE ρ := by
        rw [egE]; exact nm_at g
      have hC8 := g.kp _ _ pC.1 pC.2 CN hC7
      refine ⟨by decide, by decide, for_it walk_range (fun k σ H' => ∃ (z6 z8 z9 z10 : Option V), σ = [some (.ref l), some (.ref p), some (.ref C), some (.ref N), y4, y5, z6, some (.str (nmD m).shown), z8, z9, z10] ∧ StOk H' p c ∧ Keep p c H8 H') ⟨_, _, _, _, rfl, g.st, Keep.refl _ _ _⟩ (fun _ _ _ _ _ => trivial) ?_ ?_⟩
      · rintro k x σ H9o H9 hk ⟨z6, z8, z9, z10, rfl, st9, k9⟩ yy
        obtain ⟨rfl, e3⟩ := Rd.zr yy
        subst e3
        walk_at "my rn"
        intro V1 HA nV sA hV
        walk_at "my rn"
        intro P1 HB nP sB hP
        walk_at "my rn"
        intro Ca HC nCa sC hCa
        walk_at "my rn"
        intro e HE nE sE he
        have stE := st9.same (sA.trans (sB.trans (sC.trans sE)))
        have pV := st9.ne nV
        have pP := (st9.same sA).ne nP
        have pCa := (st9.same (sA.trans sB)).ne nCa
        have pE := (st9.same (sA.trans (sB.trans sC))).ne nE
        walk_at "my rn"
        refine ⟨p, c, 6, rfl, stE, by decide, by decide, fun u HF u0 u1 stF kF => ?_⟩
        have k8F : Keep p c H8 HF := k9.trans ((Keep.same (sA.trans (sB.trans (sC.trans sE)))).trans kF)
        have pt0 := st7.ne' ht0
        have pt1 := st7.ne' ht1
        have pt2 := st7.ne' ht2
        have pt3 := st7.ne' ht3
        have at8 : ∀ {t : Addr} {xs : List V}, H7 t = some (.tup xs) → HF t = some (.tup xs) := fun {t xs} h => k8F _ _ (st7.ne' h).1 (st7.ne' h).2 (g.kp _ _ (st7.ne' h).1 (st7.ne' h).2 (fun z => by rw [z, hN] at h; cases h) h)
        have new : ∀ {t : Addr} {xs : List V}, H7 t = some (.tup xs) → SqT K (New (Only p c HF) HF) t xs := fun h => SqT.of (new_only (st7.ne' h).1 (st7.ne' h).2 (at8 h))
        have env : EnvAt K (New (Only p c HF) HF) e gE := by
          rw [egE]
          refine ⟨C, V1, P1, Ca, new_only pE.1 pE.2 (kF _ _ pE.1 pE.2 he), ⟨[t0, t1, t2, t3], new_only pC.1 pC.2 (k8F _ _ pC.1 pC.2 hC8), rfl, fun i t q a b => ?_⟩, new_only pV.1 pV.2 (kF _ _ pV.1 pV.2 (sE _ _ (sC _ _ (sB _ _ hV)))), ⟨[], new_only pP.1 pP.2 (kF _ _ pP.1 pP.2 (sE _ _ (sC _ _ hP))), rfl, fun i t q a b => by simp at a⟩, [], new_only pCa.1 pCa.2 (kF _ _ pCa.1 pCa.2 (sE _ _ hCa)), rfl, fun i t q a b => by simp at a⟩
          match i with
          | 0 => cases a; cases b; exact new ht0
          | 1 => cases a; cases b; exact new ht1
          | 2 => cases a; cases b; exact new ht2
          | 3 => cases a; cases b; exact new ht3
          | n + 4 => simp at a
        walk_at "my rn"
        refine ⟨Only p c HF, HF, p, c, e, gE, 1 + u, rfl, Here.self stF, env, by rw [egE]; exact ⟨by show 4 ≤ 100; decide, by show 0 ≤ 100; decide, by show 0 ≤ 100; decide, by show 0 ≤ 100; decide⟩, by omega, fun v x HG dx wx dep stG kG => ?_⟩
        have k8G := k8F.trans kG
        have nmG := hρ HG ((k8G _ _ pN.1 pN.2 hN8).trans hN8.symm) fun q mq => (k8G _ _ (g.at_ q mq).2.1 (g.at_ q mq).2.2.1 (g.at_ q mq).1).trans (g.at_ q mq).1.symm
        have dxG : Dp K HG v x.d := dp_same (fun a o e => (New.get e).2) dx
        walk_at "my rn"
        refine ⟨gE, ρ, N, v, x, rfl, dxG, wx, by omega, nmG, fun HI sI => ?_⟩
        walk_at "my rn"
        refine ⟨gE, ρ, N, v, x, rfl, dp_same sI dxG, wx, by omega, nmG.same sI, fun HJ sJ => ?_⟩
        walk_at "my rn"
        rw [decide_eq_true rfl]
        refine Rd.ifnT ?_
        exact ⟨_, _, _, _, rfl, (stG.same sI).same sJ, k8G.trans (Keep.same (sI.trans sJ))⟩
      · rintro σ H9 ⟨z6, z8, z9, z10, rfl, st9, k9⟩
        walk_at "my rn"
        refine ⟨N, m, rfl, k9 _ _ pN.1 pN.2 hN8, fun q mq => k9 _ _ (g.at_ q mq).2.1 (g.at_ q mq).2.2.1 (g.at_ q mq).1, r1, r2, r3, ?_⟩
        walk_at "my rn"
        rw [decide_eq_true rfl]
        exact q _
end

def top_mk {P : Program} {w : World} {K : PySem.W.Frag} {h : Heap} {mg : Str → Option Value} (X : K.In h) (G : h.Ns mainGlobals mg)
    {a_wrap : Addr} {od_wrap an_wrap : Option Addr} {sl_wrap : Array (Option Value)} {oc_wrap kV_wrap dc_wrap pm_wrap cd_wrap ct_wrap : Value}
    {a_signed : Addr} {od_signed an_signed : Option Addr} {sl_signed : Array (Option Value)} {oc_signed kV_signed dc_signed pm_signed cd_signed ct_signed : Value}
    {a__holds : Addr} {od__holds an__holds : Option Addr} {sl__holds : Array (Option Value)} {oc__holds kV__holds dc__holds pm__holds cd__holds ct__holds : Value}
    {a_combine : Addr} {od_combine an_combine : Option Addr} {sl_combine : Array (Option Value)} {oc_combine kV_combine dc_combine pm_combine cd_combine ct_combine : Value}
    {a_alter : Addr} {od_alter an_alter : Option Addr} {sl_alter : Array (Option Value)} {oc_alter kV_alter dc_alter pm_alter cd_alter ct_alter : Value}
    {a__operands : Addr} {od__operands an__operands : Option Addr} {sl__operands : Array (Option Value)} {oc__operands kV__operands dc__operands pm__operands cd__operands ct__operands : Value}
    {a_parts : Addr} {od_parts an_parts : Option Addr} {sl_parts : Array (Option Value)} {oc_parts kV_parts dc_parts pm_parts cd_parts ct_parts : Value}
    {a_evaluate : Addr} {od_evaluate an_evaluate : Option Addr} {sl_evaluate : Array (Option Value)} {oc_evaluate kV_evaluate dc_evaluate pm_evaluate cd_evaluate ct_evaluate : Value}
    {a__law_state : Addr} {od__law_state an__law_state : Option Addr} {sl__law_state : Array (Option Value)} {oc__law_state kV__law_state dc__law_state pm__law_state cd__law_state ct__law_state : Value}
    {a__law_draw : Addr} {od__law_draw an__law_draw : Option Addr} {sl__law_draw : Array (Option Value)} {oc__law_draw kV__law_draw dc__law_draw pm__law_draw cd__law_draw ct__law_draw : Value}
    {a__law_pick : Addr} {od__law_pick an__law_pick : Option Addr} {sl__law_pick : Array (Option Value)} {oc__law_pick kV__law_pick dc__law_pick pm__law_pick cd__law_pick ct__law_pick : Value}
    {a__law_word : Addr} {od__law_word an__law_word : Option Addr} {sl__law_word : Array (Option Value)} {oc__law_word kV__law_word dc__law_word pm__law_word cd__law_word ct__law_word : Value}
    {a__law_expr : Addr} {od__law_expr an__law_expr : Option Addr} {sl__law_expr : Array (Option Value)} {oc__law_expr kV__law_expr dc__law_expr pm__law_expr cd__law_expr ct__law_expr : Value}
    {a__law_two : Addr} {od__law_two an__law_two : Option Addr} {sl__law_two : Array (Option Value)} {oc__law_two kV__law_two dc__law_two pm__law_two cd__law_two ct__law_two : Value}
    {a__law_value : Addr} {od__law_value an__law_value : Option Addr} {sl__law_value : Array (Option Value)} {oc__law_value kV__law_value dc__law_value pm__law_value cd__law_value ct__law_value : Value}
    {a_law : Addr} {od_law an_law : Option Addr} {sl_law : Array (Option Value)} {oc_law kV_law dc_law pm_law cd_law ct_law : Value}
    {t_WORDS : Tok}
    {t_SIGN_BIT : Tok}
    {t_GREATEST_WORD : Tok}
    (n_wrap : PySem.W.nsIn K mainGlobals "wrap" = some (some (.ref a_wrap)))
    (n_signed : PySem.W.nsIn K mainGlobals "signed" = some (some (.ref a_signed)))
    (n__holds : PySem.W.nsIn K mainGlobals "_holds" = some (some (.ref a__holds)))
    (n_combine : PySem.W.nsIn K mainGlobals "combine" = some (some (.ref a_combine)))
    (n_alter : PySem.W.nsIn K mainGlobals "alter" = some (some (.ref a_alter)))
    (n__operands : PySem.W.nsIn K mainGlobals "_operands" = some (some (.ref a__operands)))
    (n_parts : PySem.W.nsIn K mainGlobals "parts" = some (some (.ref a_parts)))
    (n_evaluate : PySem.W.nsIn K mainGlobals "evaluate" = some (some (.ref a_evaluate)))
    (n__law_state : PySem.W.nsIn K mainGlobals "_law_state" = some (some (.ref a__law_state)))
    (n__law_draw : PySem.W.nsIn K mainGlobals "_law_draw" = some (some (.ref a__law_draw)))
    (n__law_pick : PySem.W.nsIn K mainGlobals "_law_pick" = some (some (.ref a__law_pick)))
    (n__law_word : PySem.W.nsIn K mainGlobals "_law_word" = some (some (.ref a__law_word)))
    (n__law_expr : PySem.W.nsIn K mainGlobals "_law_expr" = some (some (.ref a__law_expr)))
    (n__law_two : PySem.W.nsIn K mainGlobals "_law_two" = some (some (.ref a__law_two)))
    (n__law_value : PySem.W.nsIn K mainGlobals "_law_value" = some (some (.ref a__law_value)))
    (n_law : PySem.W.nsIn K mainGlobals "law" = some (some (.ref a_law)))
    (l_wrap : K.lookup a_wrap = some ⟨oc_wrap, od_wrap, .func (PySem.W.fnOf "wrap" "wrap" (defArgs s_wrap) (defBody s_wrap) (defScope s_wrap) .none kV_wrap dc_wrap pm_wrap an_wrap cd_wrap ct_wrap), sl_wrap⟩)
    (c_wrap : PySem.W.codeIn K cd_wrap "wrap" = true)
    (k_wrap : PySem.W.keepIn K (.ref a_wrap) = true)
    (l_signed : K.lookup a_signed = some ⟨oc_signed, od_signed, .func (PySem.W.fnOf "signed" "signed" (defArgs s_signed) (defBody s_signed) (defScope s_signed) .none kV_signed dc_signed pm_signed an_signed cd_signed ct_signed), sl_signed⟩)
    (c_signed : PySem.W.codeIn K cd_signed "signed" = true)
    (k_signed : PySem.W.keepIn K (.ref a_signed) = true)
    (l__holds : K.lookup a__holds = some ⟨oc__holds, od__holds, .func (PySem.W.fnOf "_holds" "_holds" (defArgs s__holds) (defBody s__holds) (defScope s__holds) .none kV__holds dc__holds pm__holds an__holds cd__holds ct__holds), sl__holds⟩)
    (c__holds : PySem.W.codeIn K cd__holds "_holds" = true)
    (k__holds : PySem.W.keepIn K (.ref a__holds) = true)
    (l_combine : K.lookup a_combine = some ⟨oc_combine, od_combine, .func (PySem.W.fnOf "combine" "combine" (defArgs s_combine) (defBody s_combine) (defScope s_combine) .none kV_combine dc_combine pm_combine an_combine cd_combine ct_combine), sl_combine⟩)
    (c_combine : PySem.W.codeIn K cd_combine "combine" = true)
    (k_combine : PySem.W.keepIn K (.ref a_combine) = true)
    (l_alter : K.lookup a_alter = some ⟨oc_alter, od_alter, .func (PySem.W.fnOf "alter" "alter" (defArgs s_alter) (defBody s_alter) (defScope s_alter) .none kV_alter dc_alter pm_alter an_alter cd_alter ct_alter), sl_alter⟩)
    (c_alter : PySem.W.codeIn K cd_alter "alter" = true)
    (k_alter : PySem.W.keepIn K (.ref a_alter) = true)
    (l__operands : K.lookup a__operands = some ⟨oc__operands, od__operands, .func (PySem.W.fnOf "_operands" "_operands" (defArgs s__operands) (defBody s__operands) (defScope s__operands) .none kV__operands dc__operands pm__operands an__operands cd__operands ct__operands), sl__operands⟩)
    (c__operands : PySem.W.codeIn K cd__operands "_operands" = true)
    (k__operands : PySem.W.keepIn K (.ref a__operands) = true)
    (l_parts : K.lookup a_parts = some ⟨oc_parts, od_parts, .func (PySem.W.fnOf "parts" "parts" (defArgs s_parts) (defBody s_parts) (defScope s_parts) .none kV_parts dc_parts pm_parts an_parts cd_parts ct_parts), sl_parts⟩)
    (c_parts : PySem.W.codeIn K cd_parts "parts" = true)
    (k_parts : PySem.W.keepIn K (.ref a_parts) = true)
    (l_evaluate : K.lookup a_evaluate = some ⟨oc_evaluate, od_evaluate, .func (PySem.W.fnOf "evaluate" "evaluate" (defArgs s_evaluate) (defBody s_evaluate) (defScope s_evaluate) .none kV_evaluate dc_evaluate pm_evaluate an_evaluate cd_evaluate ct_evaluate), sl_evaluate⟩)
    (c_evaluate : PySem.W.codeIn K cd_evaluate "evaluate" = true)
    (k_evaluate : PySem.W.keepIn K (.ref a_evaluate) = true)
    (l__law_state : K.lookup a__law_state = some ⟨oc__law_state, od__law_state, .func (PySem.W.fnOf "_law_state" "_law_state" (defArgs s__law_state) (defBody s__law_state) (defScope s__law_state) .none kV__law_state dc__law_state pm__law_state an__law_state cd__law_state ct__law_state), sl__law_state⟩)
    (c__law_state : PySem.W.codeIn K cd__law_state "_law_state" = true)
    (k__law_state : PySem.W.keepIn K (.ref a__law_state) = true)
    (l__law_draw : K.lookup a__law_draw = some ⟨oc__law_draw, od__law_draw, .func (PySem.W.fnOf "_law_draw" "_law_draw" (defArgs s__law_draw) (defBody s__law_draw) (defScope s__law_draw) .none kV__law_draw dc__law_draw pm__law_draw an__law_draw cd__law_draw ct__law_draw), sl__law_draw⟩)
    (c__law_draw : PySem.W.codeIn K cd__law_draw "_law_draw" = true)
    (k__law_draw : PySem.W.keepIn K (.ref a__law_draw) = true)
    (l__law_pick : K.lookup a__law_pick = some ⟨oc__law_pick, od__law_pick, .func (PySem.W.fnOf "_law_pick" "_law_pick" (defArgs s__law_pick) (defBody s__law_pick) (defScope s__law_pick) .none kV__law_pick dc__law_pick pm__law_pick an__law_pick cd__law_pick ct__law_pick), sl__law_pick⟩)
    (c__law_pick : PySem.W.codeIn K cd__law_pick "_law_pick" = true)
    (k__law_pick : PySem.W.keepIn K (.ref a__law_pick) = true)
    (l__law_word : K.lookup a__law_word = some ⟨oc__law_word, od__law_word, .func (PySem.W.fnOf "_law_word" "_law_word" (defArgs s__law_word) (defBody s__law_word) (defScope s__law_word) .none kV__law_word dc__law_word pm__law_word an__law_word cd__law_word ct__law_word), sl__law_word⟩)
    (c__law_word : PySem.W.codeIn K cd__law_word "_law_word" = true)
    (k__law_word : PySem.W.keepIn K (.ref a__law_word) = true)
    (l__law_expr : K.lookup a__law_expr = some ⟨oc__law_expr, od__law_expr, .func (PySem.W.fnOf "_law_expr" "_law_expr" (defArgs s__law_expr) (defBody s__law_expr) (defScope s__law_expr) .none kV__law_expr dc__law_expr pm__law_expr an__law_expr cd__law_expr ct__law_expr), sl__law_expr⟩)
    (c__law_expr : PySem.W.codeIn K cd__law_expr "_law_expr" = true)
    (k__law_expr : PySem.W.keepIn K (.ref a__law_expr) = true)
    (l__law_two : K.lookup a__law_two = some ⟨oc__law_two, od__law_two, .func (PySem.W.fnOf "_law_two" "_law_two" (defArgs s__law_two) (defBody s__law_two) (defScope s__law_two) .none kV__law_two dc__law_two pm__law_two an__law_two cd__law_two ct__law_two), sl__law_two⟩)
    (c__law_two : PySem.W.codeIn K cd__law_two "_law_two" = true)
    (k__law_two : PySem.W.keepIn K (.ref a__law_two) = true)
    (l__law_value : K.lookup a__law_value = some ⟨oc__law_value, od__law_value, .func (PySem.W.fnOf "_law_value" "_law_value" (defArgs s__law_value) (defBody s__law_value) (defScope s__law_value) .none kV__law_value dc__law_value pm__law_value an__law_value cd__law_value ct__law_value), sl__law_value⟩)
    (c__law_value : PySem.W.codeIn K cd__law_value "_law_value" = true)
    (k__law_value : PySem.W.keepIn K (.ref a__law_value) = true)
    (l_law : K.lookup a_law = some ⟨oc_law, od_law, .func (PySem.W.fnOf "law" "law" (defArgs s_law) (defBody s_law) (defScope s_law) .none kV_law dc_law pm_law an_law cd_law ct_law), sl_law⟩)
    (c_law : PySem.W.codeIn K cd_law "law" = true)
    (k_law : PySem.W.keepIn K (.ref a_law) = true)
    (z_list : PySem.W.nsIn K mainGlobals "list" = some none)
    (z_len : PySem.W.nsIn K mainGlobals "len" = some none)
    (z_int : PySem.W.nsIn K mainGlobals "int" = some none)
    (z_abs : PySem.W.nsIn K mainGlobals "abs" = some none)
    (z_repr : PySem.W.nsIn K mainGlobals "repr" = some none)
    (z_range : PySem.W.nsIn K mainGlobals "range" = some none)
    (z_bool : PySem.W.nsIn K mainGlobals "bool" = some none)
    (z_isinstance : PySem.W.nsIn K mainGlobals "isinstance" = some none)
    (z_max : PySem.W.nsIn K mainGlobals "max" = some none)
    (v_WORDS : PySem.W.nsIn K mainGlobals "WORDS" = some (some (.int 4294967296 t_WORDS)))
    (v_SIGN_BIT : PySem.W.nsIn K mainGlobals "SIGN_BIT" = some (some (.int 2147483648 t_SIGN_BIT)))
    (v_GREATEST_WORD : PySem.W.nsIn K mainGlobals "GREATEST_WORD" = some (some (.int 4294967295 t_GREATEST_WORD))) :
    Top K mg :=
  { a_wrap := a_wrap,
    d_wrap := _,
    F_wrap := fun_mk (st := s_wrap) l_wrap c_wrap k_wrap,
    g_wrap := PySem.W.mg_of X G n_wrap,
    b_wrap := (fun_mk (st := s_wrap) l_wrap c_wrap k_wrap).binds (ps := ["n"]) fun _ _ _ _ _ _ us hl => match us, hl with | [_], _ => rfl,
    a_signed := a_signed,
    d_signed := _,
    F_signed := fun_mk (st := s_signed) l_signed c_signed k_signed,
    g_signed := PySem.W.mg_of X G n_signed,
    b_signed := (fun_mk (st := s_signed) l_signed c_signed k_signed).binds (ps := ["w"]) fun _ _ _ _ _ _ us hl => match us, hl with | [_], _ => rfl,
    a__holds := a__holds,
    d__holds := _,
    F__holds := fun_mk (st := s__holds) l__holds c__holds k__holds,
    g__holds := PySem.W.mg_of X G n__holds,
    b__holds := (fun_mk (st := s__holds) l__holds c__holds k__holds).binds (ps := ["operator", "a", "b"]) fun _ _ _ _ _ _ us hl => match us, hl with | [_, _, _], _ => rfl,
    a_combine := a_combine,
    d_combine := _,
    F_combine := fun_mk (st := s_combine) l_combine c_combine k_combine,
    g_combine := PySem.W.mg_of X G n_combine,
    b_combine := (fun_mk (st := s_combine) l_combine c_combine k_combine).binds (ps := ["operator", "a", "b"]) fun _ _ _ _ _ _ us hl => match us, hl with | [_, _, _], _ => rfl,
    a_alter := a_alter,
    d_alter := _,
    F_alter := fun_mk (st := s_alter) l_alter c_alter k_alter,
    g_alter := PySem.W.mg_of X G n_alter,
    b_alter := (fun_mk (st := s_alter) l_alter c_alter k_alter).binds (ps := ["operator", "a"]) fun _ _ _ _ _ _ us hl => match us, hl with | [_, _], _ => rfl,
    a__operands := a__operands,
    d__operands := _,
    F__operands := fun_mk (st := s__operands) l__operands c__operands k__operands,
    g__operands := PySem.W.mg_of X G n__operands,
    b__operands := (fun_mk (st := s__operands) l__operands c__operands k__operands).binds (ps := ["e"]) fun _ _ _ _ _ _ us hl => match us, hl with | [_], _ => rfl,
    a_parts := a_parts,
    d_parts := _,
    F_parts := fun_mk (st := s_parts) l_parts c_parts k_parts,
    g_parts := PySem.W.mg_of X G n_parts,
    b_parts := (fun_mk (st := s_parts) l_parts c_parts k_parts).binds (ps := ["e"]) fun _ _ _ _ _ _ us hl => match us, hl with | [_], _ => rfl,
    a_evaluate := a_evaluate,
    d_evaluate := _,
    F_evaluate := fun_mk (st := s_evaluate) l_evaluate c_evaluate k_evaluate,
    g_evaluate := PySem.W.mg_of X G n_evaluate,
    b_evaluate := (fun_mk (st := s_evaluate) l_evaluate c_evaluate k_evaluate).binds (ps := ["e", "names"]) fun _ _ _ _ _ _ us hl => match us, hl with | [_, _], _ => rfl,
    a__law_state := a__law_state,
    d__law_state := _,
    F__law_state := fun_mk (st := s__law_state) l__law_state c__law_state k__law_state,
    g__law_state := PySem.W.mg_of X G n__law_state,
    b__law_state := (fun_mk (st := s__law_state) l__law_state c__law_state k__law_state).binds (ps := ["script"]) fun _ _ _ _ _ _ us hl => match us, hl with | [_], _ => rfl,
    a__law_draw := a__law_draw,
    d__law_draw := _,
    F__law_draw := fun_mk (st := s__law_draw) l__law_draw c__law_draw k__law_draw,
    g__law_draw := PySem.W.mg_of X G n__law_draw,
    b__law_draw := (fun_mk (st := s__law_draw) l__law_draw c__law_draw k__law_draw).binds (ps := ["state", "many"]) fun _ _ _ _ _ _ us hl => match us, hl with | [_, _], _ => rfl,
    a__law_pick := a__law_pick,
    d__law_pick := _,
    F__law_pick := fun_mk (st := s__law_pick) l__law_pick c__law_pick k__law_pick,
    g__law_pick := PySem.W.mg_of X G n__law_pick,
    b__law_pick := (fun_mk (st := s__law_pick) l__law_pick c__law_pick k__law_pick).binds (ps := ["state", "row"]) fun _ _ _ _ _ _ us hl => match us, hl with | [_, _], _ => rfl,
    a__law_word := a__law_word,
    d__law_word := _,
    F__law_word := fun_mk (st := s__law_word) l__law_word c__law_word k__law_word,
    g__law_word := PySem.W.mg_of X G n__law_word,
    b__law_word := (fun_mk (st := s__law_word) l__law_word c__law_word k__law_word).binds (ps := ["state"]) fun _ _ _ _ _ _ us hl => match us, hl with | [_], _ => rfl,
    a__law_expr := a__law_expr,
    d__law_expr := _,
    F__law_expr := fun_mk (st := s__law_expr) l__law_expr c__law_expr k__law_expr,
    g__law_expr := PySem.W.mg_of X G n__law_expr,
    b__law_expr := (fun_mk (st := s__law_expr) l__law_expr c__law_expr k__law_expr).binds (ps := ["state", "env", "deep"]) fun _ _ _ _ _ _ us hl => match us, hl with | [_, _, _], _ => rfl,
    a__law_two := a__law_two,
    d__law_two := _,
    F__law_two := fun_mk (st := s__law_two) l__law_two c__law_two k__law_two,
    g__law_two := PySem.W.mg_of X G n__law_two,
    b__law_two := (fun_mk (st := s__law_two) l__law_two c__law_two k__law_two).binds (ps := ["sign", "a", "b"]) fun _ _ _ _ _ _ us hl => match us, hl with | [_, _, _], _ => rfl,
    a__law_value := a__law_value,
    d__law_value := _,
    F__law_value := fun_mk (st := s__law_value) l__law_value c__law_value k__law_value,
    g__law_value := PySem.W.mg_of X G n__law_value,
    b__law_value := (fun_mk (st := s__law_value) l__law_value c__law_value k__law_value).binds (ps := ["e", "names"]) fun _ _ _ _ _ _ us hl => match us, hl with | [_, _], _ => rfl,
    a_law := a_law,
    d_law := _,
    F_law := fun_mk (st := s_law) l_law c_law k_law,
    g_law := PySem.W.mg_of X G n_law,
    b_law := (fun_mk (st := s_law) l_law c_law k_law).binds (ps := ["script"]) fun _ _ _ _ _ _ us hl => match us, hl with | [_], _ => rfl,
    m_list := PySem.W.mg_none_of X G z_list,
    m_len := PySem.W.mg_none_of X G z_len,
    m_int := PySem.W.mg_none_of X G z_int,
    m_abs := PySem.W.mg_none_of X G z_abs,
    m_repr := PySem.W.mg_none_of X G z_repr,
    m_range := PySem.W.mg_none_of X G z_range,
    m_bool := PySem.W.mg_none_of X G z_bool,
    m_isinstance := PySem.W.mg_none_of X G z_isinstance,
    m_max := PySem.W.mg_none_of X G z_max,
    t_WORDS := t_WORDS,
    c_WORDS := PySem.W.mg_of X G v_WORDS,
    t_SIGN_BIT := t_SIGN_BIT,
    c_SIGN_BIT := PySem.W.mg_of X G v_SIGN_BIT,
    t_GREATEST_WORD := t_GREATEST_WORD,
    c_GREATEST_WORD := PySem.W.mg_of X G v_GREATEST_WORD }
theorem all_mk {l : PySem.W.OpenLaw} {w : World} {K : PySem.W.Frag} {mg : Str → Option Value} {fa : Addr} (T : Top K mg) (hfa : mg "law" = some (.ref fa)) :
    ∃ fd : FuncData, (∀ (s : Shared) (v : Value), BindsTo s fd ⟨[v], []⟩ [("script", v)]) ∧ ∀ base : Heap, FnH l.prog w K mg base 21 fa fd ["script"] (sp_law K) := by
  have e := hfa.symm.trans T.g_law
  cases e
  refine ⟨T.d_law, fun s v => ?_, fun base => ok_law T⟩
  obtain ⟨oc, od, kV, doc, pm, an, cdv, ct, osl, e, lk, hcd⟩ := T.F_law.ex
  rw [e]
  exact .of_eq rfl
end Mine
open PySem PySem.W PyProof.Rows
set_option maxHeartbeats 0 in
theorem PySem.Challenge.cw_deadbeat_k11_values_of_expressions_holds : PySem.Challenge.rw_deadbeat_k11_values_of_expressions.Holds := by
  w_on; o_law; k_head; (case hw => w_witness2)
  k_fill
  refine L2.walk_h (impN := rfl) (l := PySem.Challenge.rw_deadbeat_k11_values_of_expressions) (n := 63) (k := 21) (x := "script") (sp := fun w => Mine.sp_law _) rfl (by decide) rfl ⟨rfl, by decide, by decide⟩ (fun w h Y => PySem.W.kIn_of Y) ?F (fun _ _ a ns hl hS => ⟨a, ns, rfl, hS, hl, fun _ => rfl⟩)
  case F =>
    intro w mg fa h KX G hmg
    refine' Mine.all_mk (Mine.top_mk (P := PySem.Challenge.rw_deadbeat_k11_values_of_expressions.prog) (w := w) KX G ?n_wrap ?n_signed ?n__holds ?n_combine ?n_alter ?n__operands ?n_parts ?n_evaluate ?n__law_state ?n__law_draw ?n__law_pick ?n__law_word ?n__law_expr ?n__law_two ?n__law_value ?n_law ?l_wrap ?c_wrap ?k_wrap ?l_signed ?c_signed ?k_signed ?l__holds ?c__holds ?k__holds ?l_combine ?c_combine ?k_combine ?l_alter ?c_alter ?k_alter ?l__operands ?c__operands ?k__operands ?l_parts ?c_parts ?k_parts ?l_evaluate ?c_evaluate ?k_evaluate ?l__law_state ?c__law_state ?k__law_state ?l__law_draw ?c__law_draw ?k__law_draw ?l__law_pick ?c__law_pick ?k__law_pick ?l__law_word ?c__law_word ?k__law_word ?l__law_expr ?c__law_expr ?k__law_expr ?l__law_two ?c__law_two ?k__law_two ?l__law_value ?c__law_value ?k__law_value ?l_law ?c_law ?k_law ?z_list ?z_len ?z_int ?z_abs ?z_repr ?z_range ?z_bool ?z_isinstance ?z_max ?v_WORDS ?v_SIGN_BIT ?v_GREATEST_WORD) hmg
    (case n_wrap => k_is); (case n_signed => k_is); (case n__holds => k_is); (case n_combine => k_is); (case n_alter => k_is); (case n__operands => k_is); (case n_parts => k_is); (case n_evaluate => k_is); (case n__law_state => k_is); (case n__law_draw => k_is); (case n__law_pick => k_is); (case n__law_word => k_is); (case n__law_expr => k_is); (case n__law_two => k_is); (case n__law_value => k_is); (case n_law => k_is); (case l_wrap => k_is); (case c_wrap => k_is); (case k_wrap => k_is); (case l_signed => k_is); (case c_signed => k_is); (case k_signed => k_is); (case l__holds => k_is); (case c__holds => k_is); (case k__holds => k_is); (case l_combine => k_is); (case c_combine => k_is); (case k_combine => k_is); (case l_alter => k_is); (case c_alter => k_is); (case k_alter => k_is); (case l__operands => k_is); (case c__operands => k_is); (case k__operands => k_is); (case l_parts => k_is); (case c_parts => k_is); (case k_parts => k_is); (case l_evaluate => k_is); (case c_evaluate => k_is); (case k_evaluate => k_is); (case l__law_state => k_is); (case c__law_state => k_is); (case k__law_state => k_is); (case l__law_draw => k_is); (case c__law_draw => k_is); (case k__law_draw => k_is); (case l__law_pick => k_is); (case c__law_pick => k_is); (case k__law_pick => k_is); (case l__law_word => k_is); (case c__law_word => k_is); (case k__law_word => k_is); (case l__law_expr => k_is); (case c__law_expr => k_is); (case k__law_expr => k_is); (case l__law_two => k_is); (case c__law_two => k_is); (case k__law_two => k_is); (case l__law_value => k_is); (case c__law_value => k_is); (case k__law_value => k_is); (case l_law => k_is); (case c_law => k_is); (case k_law => k_is); (case z_list => k_is); (case z_len => k_is); (case z_int => k_is); (case z_abs => k_is); (case z_repr => k_is); (case z_range => k_is); (case z_bool => k_is); (case z_isinstance => k_is); (case z_max => k_is); (case v_WORDS => k_is); (case v_SIGN_BIT => k_is); (case v_GREATEST_WORD => k_is)
