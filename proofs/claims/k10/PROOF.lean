import PyProof.Rows.All
import Wide.All
import OpenK.AllK
import Wide.FinOn
import PyProof.RulesMatch
import HandS.Base
import HandS.Call
import HandS.Words
import HandS.IsInst
import HandS.ForExc
import HandS.Zip
import HandS.Walk
import HandS.Strs
import HandS.ForMost
import HandS.Evl
import HandS.SortInts
import HandS.List
import HandS.RaiseMore
import PyProof.InstEq
import HandS.TupSets
import PyProof.EqKinds
import PyProof.NeKinds
import HandS.DictComp
import HandS.More
import KE.DatumOrd
import HandS.SortKw
import HandS.SetKeys
import HandS.SetFor
import HandS.RevRange
import KE.KDictZip
import KE.KDictItemsList
import HandS.ListItems
import HandS.Style
import HandS.TupLe
import HandS.TryOnly
import HandS.Ends
import PyProof.ReprRoads
import PySem.Challenge.RW_deadbeat_k10_reach_and_use
import HandS.Wide
import HandS.WideBits
import HandS.StrMore
import HandS.IntHex
import HandS.ReSub
import HandS.Codes
import HandS.SortRule
import HandS.Deep
import HandS.DeepEq
import PyProof.StrLawsRepr
set_option Elab.async false
set_option linter.all false
set_option maxRecDepth 100000
namespace L2
open PySem PySem.Spec PyProof.Rows
/-- the cases of a match over texts: a written text or whatever is left, and what is done -/
def tCases (z : Str) : List (Option Str × TS) → TS
  | [] => fun D σ H => D.nx σ H
  | (none, t) :: _ => t
  | (some c, t) :: r => fun D σ H => if z = c then t D σ H else tCases z r D σ H
def tMatch (te : TE) (l : List (Option Str × TS)) : TS := fun D σ H => te σ H fun x H1 => ∃ z : Str, x = .str z ∧ tCases z l D σ H1
inductive PCs (X : Cx) : List MatchCase → List (Option Str × TS) → Prop
  | nil : PCs X [] []
  | rest {body : List Stmt} {t : TS} {p : Pos} {r : List MatchCase} : PSs X body t → PCs X (⟨.MatchAs none none p, none, body⟩ :: r) [(none, t)]
  | text {body : List Stmt} {t : TS} {c : Str} {j : Nat} {p p2 : Pos} {r : List MatchCase} {l : List (Option Str × TS)} : PSs X body t → PCs X r l →
      PCs X (⟨.MatchValue (.Constant (.str c) j p) p2, none, body⟩ :: r) ((some c, t) :: l)
theorem run_cases {X : Cx} {z : Str} {u : Value} (ru : RelV (.str z) u) : ∀ {cs : List MatchCase} {l : List (Option Str × TS)}, PCs X cs l → ∀ (first : Bool) (pins : List (Addr × Obj)) (s : Shared) (σ : St) (H : Hp) (D : Ends), Inv X pins σ H s → tCases z l D σ H →
    wpAny (model X.prog X.w) X.A (matchCases cs X.env u first) (SP X pins D) X.xe s
  | _, _, .nil, first, pins, s, σ, H, D, I, h => wpAny_matchCases_nil ⟨σ, H, I, h⟩
  | _, _, .rest hb, first, pins, s, σ, H, D, I, h => by
    refine wpAny_matchCases_cons (wpAny_matchPattern_Capture ?_)
    exact wpAny_assignInOrder_none (hb.run pins s σ H D I h)
  | _, _, .text (c := c) (l := l) hb hr, first, pins, s, σ, H, D, I, h => by
    refine wpAny_matchCases_cons (wpAny_matchPattern_Value ?_)
    refine thn ((pe_str (X := X) (x := c)).run pins s σ H (fun v H' => v = .str c ∧ H' = H) I ⟨rfl, rfl⟩) fun v s1 hh => ?_
    obtain ⟨x, H1, I1, rx, ex, eH⟩ := hh
    subst ex
    subst eH
    refine thn (op_eq pins s1 σ H1 (.str z) (.str c) u v (fun y H' => y = .bl (decide (V.str z = V.str c)) ∧ H' = H1) I1 ru rx ⟨rfl, rfl, rfl⟩) fun y s2 hh => ?_
    obtain ⟨x, H2, I2, rx2, ex, eH⟩ := hh
    subst ex
    subst eH
    cases rx2
    refine wpAny_truthy_bool ?_
    have h' : (if z = c then _ else _) := h
    by_cases e : z = c
    · rw [if_pos e] at h'
      rw [decide_eq_true (by rw [e])]
      exact wpAny_assignInOrder_none (hb.run pins s2 σ H2 D I2 h')
    · rw [if_neg e] at h'
      rw [decide_eq_false (fun q => e (by injection q))]
      exact run_cases ru hr false pins s2 σ H2 D I2 h'
theorem ps_match {X : Cx} {e : Expr} {te : TE} {cs : List MatchCase} {l : List (Option Str × TS)} {pos : Pos} (he : PE X e te) (hc : PCs X cs l) : PS X (.Match e cs pos) (tMatch te l) := by
  refine ⟨fun pins s σ H D I h => wpAny_Match ?_⟩
  refine thn (he.run pins s σ H _ I h) fun u s1 hh => ?_
  obtain ⟨x, H1, I1, rx, z, ez, hz⟩ := hh
  subst ez
  exact run_cases rx hc true pins s1 σ H1 D I1 hz
/-- a module's constant: an int, a text, an object -/
theorem pe_gi {X : Cx} {x : Str} {n : Int} {t : Tok} {pos : Pos} (hg : Gl X x) (hm : X.mg x = some (.int n t)) (hd : (x == ("__debug__" : Str)) = false := by decide) : PE X (.Name x pos) (tC (.int n)) := pe_glob hg hm ⟨_, rfl⟩ hd
theorem pe_gs {X : Cx} {x : Str} {z : Str} {t : Tok} {pos : Pos} (hg : Gl X x) (hm : X.mg x = some (.str z t)) (hd : (x == ("__debug__" : Str)) = false := by decide) : PE X (.Name x pos) (tC (.str z)) := pe_glob hg hm ⟨_, rfl⟩ hd
theorem pe_gr {X : Cx} {x : Str} {a : Addr} {pos : Pos} (hg : Gl X x) (hm : X.mg x = some (.ref a)) (hd : (x == ("__debug__" : Str)) = false := by decide) : PE X (.Name x pos) (tC (.ref a)) := pe_glob (v := .ref a) hg hm rfl hd
/-- a built-in type as a value -/
theorem pe_ty {X : Cx} {x : Str} {T : String} {pos : Pos} (hg : Gl X x) (hm : X.mg x = none) (hv : bootBuiltins x = some (.type T)) (hn : x ≠ "__name__" := by decide) (hd : (x == ("__debug__" : Str)) = false := by decide) : PE X (.Name x pos) (tC (.ty T)) :=
  ⟨fun _ s _ H _ I h => ld_blt I hg hm hv ⟨.ty T, H, I, rfl, h⟩ hn hd⟩
/-- isinstance of a plain value and a built-in type -/
theorem isi_int {K : PySem.W.Frag} {H : Hp} {Q : VK} {i : Int} (q : Q (.bl true) H) : rIsi K [.int i, .ty "int"] H Q := ⟨_, _, _, _, true, rfl, .ty _, .base (.int _), kit_ty (by decide +kernel), q⟩
theorem isi_int_bool {K : PySem.W.Frag} {H : Hp} {Q : VK} {i : Int} (q : Q (.bl false) H) : rIsi K [.int i, .ty "bool"] H Q := ⟨_, _, _, _, false, rfl, .ty _, .base (.int _), kit_ty (by decide +kernel), q⟩
theorem Same.none {H H' : Hp} (e : Same H H') {p : Addr} (h : H' p = Option.none) : H p = Option.none := Same.free e h
theorem same_new {H : Hp} {p : Addr} {o : HO} (h : H p = Option.none) : Same H (upd H p o) := fun b x e => by
  rw [upd_ne (ne_of_none e h)]
  exact e
theorem or_test {t u : TT} {σ : St} {H : Hp} {a b : Bool} {Q : Bool → Hp → Prop} (h1 : ∀ Q' : Bool → Hp → Prop, Q' a H → t σ H Q') (h2 : a = false → ∀ Q' : Bool → Hp → Prop, Q' b H → u σ H Q') (q : Q (a || b) H) : tOr t u σ H Q := by
  refine h1 _ ?_
  cases a with
  | true => exact iteT q
  | false => exact iteF (h2 rfl _ q)
theorem and_test {t u : TT} {σ : St} {H : Hp} {a b : Bool} {Q : Bool → Hp → Prop} (h1 : ∀ Q' : Bool → Hp → Prop, Q' a H → t σ H Q') (h2 : a = true → ∀ Q' : Bool → Hp → Prop, Q' b H → u σ H Q') (q : Q (a && b) H) : tAnd t u σ H Q := by
  refine h1 _ ?_
  cases a with
  | true => exact iteT (h2 rfl _ q)
  | false => exact iteF q
theorem if_or {t u : TT} {a b : Bool} {A B : TS} {D : Ends} {σ : St} {H : Hp} (h1 : ∀ Q' : Bool → Hp → Prop, Q' a H → t σ H Q') (h2 : a = false → ∀ Q' : Bool → Hp → Prop, Q' b H → u σ H Q') (q : if (a || b) = true then A D σ H else B D σ H) : tIfS (tOr t u) A B D σ H := or_test h1 h2 q
theorem if_and {t u : TT} {a b : Bool} {A B : TS} {D : Ends} {σ : St} {H : Hp} (h1 : ∀ Q' : Bool → Hp → Prop, Q' a H → t σ H Q') (h2 : a = true → ∀ Q' : Bool → Hp → Prop, Q' b H → u σ H Q') (q : if (a && b) = true then A D σ H else B D σ H) : tIfS (tAnd t u) A B D σ H := and_test h1 h2 q
theorem Same.off {H H1 : Hp} {D : Addr} {x : HO} (k : Same H H1) (n : H D = Option.none) : Same H (upd H1 D x) := fun b y e => by
  rw [upd_ne (ne_of_none e n)]
  exact k b y e
theorem Same.seqT {K : PySem.W.Frag} {H H' : Hp} {a : Addr} {xs : List V} (e : Same H H') (h : SqT K H a xs) : SqT K H' a xs := by
  rcases h with h | h
  · rcases h with h | ⟨o, h⟩
    · exact .inl (.inl (e _ _ h))
    · exact .inl (.inr ⟨o, e _ _ h⟩)
  · exact .inr h
/-- a def that may raise, called where it does not -/
theorem pass_no {X : Cx} : Passes (L2.CX X.prog X.w) X (fun _ _ _ => False) := fun _ _ _ _ _ _ _ c => by
  obtain ⟨_, _, _, _, _, _, _, _, _, _, _, _, z⟩ := c
  exact z.elim
def rListOf (K : PySem.W.Frag) : List V → Hp → VK → Prop := fun xs H Q => ∃ p ys, xs = [V.ref p] ∧ (SqL K H p ys ∨ SqT K H p ys) ∧ ∀ l, H l = Option.none → Q (.ref l) (upd H l (.lst ys))
theorem if_t {b : Bool} {A B : Prop} (h : b = true) (q : A) : if b = true then A else B := by
  rw [if_pos h]
  exact q
theorem if_f {b : Bool} {A B : Prop} (h : b = false) (q : B) : if b = true then A else B := by
  rw [if_neg (by rw [h]; exact Bool.noConfusion)]
  exact q
/-- a tuple of the written part, as it stands there -/
theorem sqT_lit {K : PySem.W.Frag} {p : Addr} {dd : Option Addr} {us : Array Value} {n : Nat} {sl : Array (Option Value)} {xs : List V} {H : Hp} (w : K.lookup p = some ⟨.type "tuple", dd, .seq us n, sl⟩) (y : Vals xs us.toList) (hl : xs.length ≤ sizeLine := by decide) : SqT K H p xs :=
  .inr ⟨_, us, n, w, rfl, rfl, Nat.le_trans (Nat.le_of_eq (by rw [← Array.length_toList]; exact (Paired.length y).symm)) hl, y⟩
end L2

set_option Elab.async false
set_option linter.all false
set_option maxRecDepth 100000
namespace Rd
open PySem PySem.Spec PyProof.Rows L2
variable {K : PySem.W.Frag} {σ : L2.St} {H : Hp} {D : Ends} {Q : VK} {ta tb te tc : TE} {t u c : TT} {ts tu : TS} {g : TG} {x y v : V} {vs : List V} {tr : TA} {a b : Option V} {r : L2.St}
theorem seq (h : ts { D with nx := tu D } σ H) : tSeq ts tu D σ H := h
theorem next (h : D.nx σ H) : tNext D σ H := h
theorem brk (h : D.bk σ H) : tBreak D σ H := h
theorem cont (h : D.ct σ H) : tCont D σ H := h
theorem asg (h : te σ H fun x H1 => g x σ H1 D.nx) : tAsg te g D σ H := h
theorem ret (h : te σ H D.rt) : tRet te D σ H := h
theorem retN (h : D.rt .non H) : tRetN D σ H := h
theorem drop (h : te σ H fun _ H1 => D.nx σ H1) : tDrop te D σ H := h
theorem ifs (h : c σ H fun b H1 => if b = true then ts D σ H1 else tu D σ H1) : tIfS c ts tu D σ H := h
theorem ife (h : t σ H fun b H1 => if b = true then ta σ H1 Q else tb σ H1 Q) : tIf t ta tb σ H Q := h
theorem test {Q : Bool → Hp → Prop} (h : te σ H fun x H1 => ∃ k, x = .bl k ∧ Q k H1) : tTest te σ H Q := h
theorem tb_ {Q : Bool → Hp → Prop} (h : te σ H fun x H1 => ∃ k, x = .bl k ∧ Q k H1) : tB te σ H Q := h
theorem bl {b : Bool} {Q : Bool → Hp → Prop} (h : Q b H) : ∃ k, V.bl b = .bl k ∧ Q k H := ⟨b, rfl, h⟩
theorem bl2 {b : Bool} {P : Bool → Prop} (h : P b) : ∃ k, V.bl b = .bl k ∧ P k := ⟨b, rfl, h⟩
theorem and_ {Q : Bool → Hp → Prop} (h : t σ H fun c H1 => if c = true then u σ H1 Q else Q false H1) : tAnd t u σ H Q := h
theorem or_ {Q : Bool → Hp → Prop} (h : t σ H fun c H1 => if c = true then Q true H1 else u σ H1 Q) : tOr t u σ H Q := h
theorem not_ {Q : Bool → Hp → Prop} (h : t σ H fun c H1 => Q (!c) H1) : tNot t σ H Q := h
theorem andV (h : ta σ H fun x H1 => ∃ c, x = .bl c ∧ if c = true then tb σ H1 Q else Q (.bl false) H1) : tAndV ta tb σ H Q := h
theorem orV (h : ta σ H fun x H1 => ∃ c, x = .bl c ∧ if c = true then Q (.bl true) H1 else tb σ H1 Q) : tOrV ta tb σ H Q := h
theorem notV (h : ta σ H fun x H1 => ∃ c, x = .bl c ∧ Q (.bl (!c)) H1) : tNotV ta σ H Q := h
theorem op {r : R2} (h : ta σ H fun x H1 => tb σ H1 fun y H2 => r x y H2 Q) : tOp r ta tb σ H Q := h
theorem un {r : V → Hp → VK → Prop} (h : ta σ H fun x H1 => r x H1 Q) : tUn r ta σ H Q := h
theorem I0 {f : Int → Int → V} {i j : Int} (h : Q (f i j) H) : rI0 f (.int i) (.int j) H Q := ⟨i, j, rfl, rfl, h⟩
theorem I {C : Int → Int → Prop} {f : Int → Int → V} {i j : Int} (c : C i j) (h : Q (f i j) H) : rI C f (.int i) (.int j) H Q := ⟨i, j, rfl, rfl, c, h⟩
theorem U {f : Int → V} {i : Int} (h : Q (f i) H) : rU f (.int i) H Q := ⟨i, rfl, h⟩
theorem ip {f : Int → Int → Int} {i j : Int} (h : Q (.int (f i j)) H) : ipI f (.int i) (.int j) H Q := ⟨i, j, rfl, rfl, h⟩
theorem eq (s : scal x y = true) (h : Q (.bl (decide (x = y))) H) : rEq x y H Q := ⟨s, h⟩
theorem ne (s : scal x y = true) (h : Q (.bl (!decide (x = y))) H) : rNe x y H Q := ⟨s, h⟩
theorem c_ (h : Q v H) : tC v σ H Q := h
theorem nil {Q : List V → Hp → Prop} (h : Q [] H) : tNil σ H Q := h
theorem cons {Q : List V → Hp → Prop} (h : ta σ H fun x H1 => tr σ H1 fun xs H2 => Q (x :: xs) H2) : tCons ta tr σ H Q := h
theorem tup (h : tr σ H fun xs H1 => xs.length ≤ sizeLine ∧ ∀ p, H1 p = none → Q (.ref p) (upd H1 p (.tup xs))) : tTup tr σ H Q := h
theorem lst (h : tr σ H fun xs H1 => xs.length ≤ sizeLine ∧ ∀ p, H1 p = none → Q (.ref p) (upd H1 p (.lst xs))) : tLst tr σ H Q := h
theorem newT {xs : List V} (s : xs.length ≤ sizeLine) (h : ∀ p, H p = none → Q (.ref p) (upd H p (.tup xs))) : xs.length ≤ sizeLine ∧ ∀ p, H p = none → Q (.ref p) (upd H p (.tup xs)) := ⟨s, h⟩
theorem newL {xs : List V} (s : xs.length ≤ sizeLine) (h : ∀ p, H p = none → Q (.ref p) (upd H p (.lst xs))) : xs.length ≤ sizeLine ∧ ∀ p, H p = none → Q (.ref p) (upd H p (.lst xs)) := ⟨s, h⟩
theorem szA {xs : List V} {A : Prop} (s : xs.length ≤ sizeLine) (h : A) : xs.length ≤ sizeLine ∧ A := ⟨s, h⟩
theorem call {sp : Sp} {dvs : List V} {E : XK} (h : tr σ H fun vs H1 => sp (vs ++ dvs) H1 Q E) : tCall sp dvs E tr σ H Q := h
theorem cb {f : List V → Hp → VK → Prop} (h : tr σ H fun vs H1 => f vs H1 Q) : tCB f tr σ H Q := h
theorem bm {T : String} {f : V → List V → Hp → VK → Prop} (h : te σ H fun x H1 => tyV K T x H1 ∧ tr σ H1 fun xs H2 => f x xs H2 Q) : tBM K T f te tr σ H Q := h
theorem bm0 {T : String} {f : V → List V → Hp → VK → Prop} (h : te σ H fun x H1 => tyV K T x H1 ∧ f x [] H1 Q) : tBM0 K T f te σ H Q := h
theorem tyL {p : Addr} {xs : List V} {A : Prop} (s : H p = some (.lst xs)) (h : A) : tyV K "list" (.ref p) H ∧ A := ⟨.inl ⟨rfl, _, SqL.of s⟩, h⟩
theorem tyLq {p : Addr} {xs : List V} {A : Prop} (s : SqL K H p xs) (h : A) : tyV K "list" (.ref p) H ∧ A := ⟨.inl ⟨rfl, _, s⟩, h⟩
theorem tyS {z : Str} {A : Prop} (h : A) : tyV K "str" (.str z) H ∧ A := ⟨rfl, h⟩
theorem app {l : Addr} {xs : List V} (h : H l = some (.lst xs)) (s : xs.length < sizeLine) (q : Q .non (upd H l (.lst (xs ++ [y])))) : rAppend (.ref l) [y] H Q := ⟨l, xs, y, rfl, rfl, h, s, q⟩
theorem sl {f : V → Option Int → Option Int → Hp → VK → Prop} {tl th : TO} (h : te σ H fun x H1 => tl σ H1 fun l H2 => th σ H2 fun u H3 => f x l u H3 Q) : L2.tSl f te tl th σ H Q := h
theorem nopart {Q : Option Int → Hp → Prop} (h : Q none H) : tNoPart σ H Q := h
theorem part {Q : Option Int → Hp → Prop} (h : te σ H fun x H1 => ∃ i, x = .int i ∧ Q (some i) H1) : tPart te σ H Q := h
theorem int1 {i : Int} {P : Int → Prop} (h : P i) : ∃ j, V.int i = .int j ∧ P j := ⟨i, rfl, h⟩
theorem ints1 {i : Int} {P : Int → Prop} (h : P i) : ∃ j, [V.int i] = [.int j] ∧ P j := ⟨i, rfl, h⟩
theorem ints2 {i j : Int} {P : Int → Int → Prop} (h : P i j) : ∃ a b, [V.int i, V.int j] = [.int a, .int b] ∧ P a b := ⟨i, j, rfl, h⟩
theorem ixLq {p : Addr} {xs : List V} {i : Int} (h : SqL K H p xs) (e : atI xs i = some v) (q : Q v H) : rIxL K (.ref p) (.int i) H Q := ⟨p, xs, i, v, rfl, rfl, h, e, q⟩
theorem ixL {p : Addr} {xs : List V} {i : Int} (h : H p = some (.lst xs)) (e : atI xs i = some v) (q : Q v H) : rIxL K (.ref p) (.int i) H Q := ⟨p, xs, i, v, rfl, rfl, SqL.of h, e, q⟩
theorem ixT {p : Addr} {xs : List V} {i : Int} (h : H p = some (.tup xs)) (e : atI xs i = some v) (q : Q v H) : rIxT K (.ref p) (.int i) H Q := ⟨p, xs, i, v, rfl, rfl, SqT.of h, e, q⟩
theorem ixTq {p : Addr} {xs : List V} {i : Int} (h : SqT K H p xs) (e : atI xs i = some v) (q : Q v H) : rIxT K (.ref p) (.int i) H Q := ⟨p, xs, i, v, rfl, rfl, h, e, q⟩
theorem gtup {p : Addr} {xs : List V} {n : Nat} {f : TGs} {Q : L2.St → Hp → Prop} (h : H p = some (.tup xs)) (l : xs.length = n) (q : f xs σ H Q) : gTup K n f (.ref p) σ H Q := ⟨p, xs, rfl, SqT.of h, l, q⟩
theorem gtupq {p : Addr} {xs : List V} {n : Nat} {f : TGs} {Q : L2.St → Hp → Prop} (h : SqT K H p xs) (l : xs.length = n) (q : f xs σ H Q) : gTup K n f (.ref p) σ H Q := ⟨p, xs, rfl, h, l, q⟩
theorem yes {Q : Bool → Hp → Prop} (h : Q true H) : tYes σ H Q := h
theorem gcons {f : TGs} {Q : L2.St → Hp → Prop} (q : g v σ H fun σ' H' => f vs σ' H' Q) : gCons g f (v :: vs) σ H Q := ⟨v, vs, rfl, q⟩
theorem gnil {Q : L2.St → Hp → Prop} (q : Q σ H) : gNil [] σ H Q := ⟨rfl, q⟩
theorem sub {to ti : TE} {f : TSet} {Q : L2.St → Hp → Prop} (h : to σ H fun o H1 => ti σ H1 fun i H2 => f o i v H2 fun H3 => Q σ H3) : gSub to ti f v σ H Q := h
theorem setL {l : Addr} {xs : List V} {j : Nat} {i : Int} {Q : Hp → Prop} (h : H l = some (.lst xs)) (e : ixN xs.length i = some j) (q : Q (upd H l (.lst (xs.set j v)))) : rSetL (.ref l) (.int i) v H Q := ⟨l, xs, i, j, rfl, rfl, h, e, q⟩
theorem isN (h : ta σ H fun x H1 => Q (.bl (decide (x = .non))) H1) : tIsN ta σ H Q := h
theorem rf {α : Type} {a : α} {A : Prop} (h : A) : a = a ∧ A := ⟨rfl, h⟩
theorem sz {n : Nat} (h : n ≤ 100000) : n ≤ sizeLine := Nat.le_trans h (by decide)
theorem szl {n : Nat} (h : n < 100000) : n < sizeLine := Nat.lt_of_lt_of_le h (by decide)
theorem chain {r r' : R2} (h : ta σ H fun x H1 => tb σ H1 fun y H2 => r x y H2 fun z H3 => ∃ k, z = .bl k ∧ if k = true then tc σ H3 fun w H4 => r' y w H4 Q else Q (.bl false) H3) : tChain r r' ta tb tc σ H Q := h

theorem v0 (h : Q v H) : tVar 0 (some v :: r) H Q := ⟨v, rfl, h⟩
theorem n0 {Q : L2.St → Hp → Prop} (h : Q (some v :: r) H) : gName 0 v (a :: r) H Q := h
theorem g0 {ti : TIp} (h : te (some x :: r) H fun y H1 => ti x y H1 fun z H2 => D.nx (some z :: r) H2) : tAug 0 te ti D (some x :: r) H := ⟨x, rfl, h⟩
theorem v1 {a0 : Option V} (h : Q v H) : tVar 1 (a0 :: some v :: r) H Q := ⟨v, rfl, h⟩
theorem n1 {a0 : Option V} {Q : L2.St → Hp → Prop} (h : Q (a0 :: some v :: r) H) : gName 1 v (a0 :: a :: r) H Q := h
theorem g1 {a0 : Option V} {ti : TIp} (h : te (a0 :: some x :: r) H fun y H1 => ti x y H1 fun z H2 => D.nx (a0 :: some z :: r) H2) : tAug 1 te ti D (a0 :: some x :: r) H := ⟨x, rfl, h⟩
theorem v2 {a0 a1 : Option V} (h : Q v H) : tVar 2 (a0 :: a1 :: some v :: r) H Q := ⟨v, rfl, h⟩
theorem n2 {a0 a1 : Option V} {Q : L2.St → Hp → Prop} (h : Q (a0 :: a1 :: some v :: r) H) : gName 2 v (a0 :: a1 :: a :: r) H Q := h
theorem g2 {a0 a1 : Option V} {ti : TIp} (h : te (a0 :: a1 :: some x :: r) H fun y H1 => ti x y H1 fun z H2 => D.nx (a0 :: a1 :: some z :: r) H2) : tAug 2 te ti D (a0 :: a1 :: some x :: r) H := ⟨x, rfl, h⟩
theorem v3 {a0 a1 a2 : Option V} (h : Q v H) : tVar 3 (a0 :: a1 :: a2 :: some v :: r) H Q := ⟨v, rfl, h⟩
theorem n3 {a0 a1 a2 : Option V} {Q : L2.St → Hp → Prop} (h : Q (a0 :: a1 :: a2 :: some v :: r) H) : gName 3 v (a0 :: a1 :: a2 :: a :: r) H Q := h
theorem g3 {a0 a1 a2 : Option V} {ti : TIp} (h : te (a0 :: a1 :: a2 :: some x :: r) H fun y H1 => ti x y H1 fun z H2 => D.nx (a0 :: a1 :: a2 :: some z :: r) H2) : tAug 3 te ti D (a0 :: a1 :: a2 :: some x :: r) H := ⟨x, rfl, h⟩
theorem v4 {a0 a1 a2 a3 : Option V} (h : Q v H) : tVar 4 (a0 :: a1 :: a2 :: a3 :: some v :: r) H Q := ⟨v, rfl, h⟩
theorem n4 {a0 a1 a2 a3 : Option V} {Q : L2.St → Hp → Prop} (h : Q (a0 :: a1 :: a2 :: a3 :: some v :: r) H) : gName 4 v (a0 :: a1 :: a2 :: a3 :: a :: r) H Q := h
theorem g4 {a0 a1 a2 a3 : Option V} {ti : TIp} (h : te (a0 :: a1 :: a2 :: a3 :: some x :: r) H fun y H1 => ti x y H1 fun z H2 => D.nx (a0 :: a1 :: a2 :: a3 :: some z :: r) H2) : tAug 4 te ti D (a0 :: a1 :: a2 :: a3 :: some x :: r) H := ⟨x, rfl, h⟩
theorem v5 {a0 a1 a2 a3 a4 : Option V} (h : Q v H) : tVar 5 (a0 :: a1 :: a2 :: a3 :: a4 :: some v :: r) H Q := ⟨v, rfl, h⟩
theorem n5 {a0 a1 a2 a3 a4 : Option V} {Q : L2.St → Hp → Prop} (h : Q (a0 :: a1 :: a2 :: a3 :: a4 :: some v :: r) H) : gName 5 v (a0 :: a1 :: a2 :: a3 :: a4 :: a :: r) H Q := h
theorem g5 {a0 a1 a2 a3 a4 : Option V} {ti : TIp} (h : te (a0 :: a1 :: a2 :: a3 :: a4 :: some x :: r) H fun y H1 => ti x y H1 fun z H2 => D.nx (a0 :: a1 :: a2 :: a3 :: a4 :: some z :: r) H2) : tAug 5 te ti D (a0 :: a1 :: a2 :: a3 :: a4 :: some x :: r) H := ⟨x, rfl, h⟩
theorem v6 {a0 a1 a2 a3 a4 a5 : Option V} (h : Q v H) : tVar 6 (a0 :: a1 :: a2 :: a3 :: a4 :: a5 :: some v :: r) H Q := ⟨v, rfl, h⟩
theorem n6 {a0 a1 a2 a3 a4 a5 : Option V} {Q : L2.St → Hp → Prop} (h : Q (a0 :: a1 :: a2 :: a3 :: a4 :: a5 :: some v :: r) H) : gName 6 v (a0 :: a1 :: a2 :: a3 :: a4 :: a5 :: a :: r) H Q := h
theorem g6 {a0 a1 a2 a3 a4 a5 : Option V} {ti : TIp} (h : te (a0 :: a1 :: a2 :: a3 :: a4 :: a5 :: some x :: r) H fun y H1 => ti x y H1 fun z H2 => D.nx (a0 :: a1 :: a2 :: a3 :: a4 :: a5 :: some z :: r) H2) : tAug 6 te ti D (a0 :: a1 :: a2 :: a3 :: a4 :: a5 :: some x :: r) H := ⟨x, rfl, h⟩
theorem v7 {a0 a1 a2 a3 a4 a5 a6 : Option V} (h : Q v H) : tVar 7 (a0 :: a1 :: a2 :: a3 :: a4 :: a5 :: a6 :: some v :: r) H Q := ⟨v, rfl, h⟩
theorem n7 {a0 a1 a2 a3 a4 a5 a6 : Option V} {Q : L2.St → Hp → Prop} (h : Q (a0 :: a1 :: a2 :: a3 :: a4 :: a5 :: a6 :: some v :: r) H) : gName 7 v (a0 :: a1 :: a2 :: a3 :: a4 :: a5 :: a6 :: a :: r) H Q := h
theorem g7 {a0 a1 a2 a3 a4 a5 a6 : Option V} {ti : TIp} (h : te (a0 :: a1 :: a2 :: a3 :: a4 :: a5 :: a6 :: some x :: r) H fun y H1 => ti x y H1 fun z H2 => D.nx (a0 :: a1 :: a2 :: a3 :: a4 :: a5 :: a6 :: some z :: r) H2) : tAug 7 te ti D (a0 :: a1 :: a2 :: a3 :: a4 :: a5 :: a6 :: some x :: r) H := ⟨x, rfl, h⟩
theorem v8 {a0 a1 a2 a3 a4 a5 a6 a7 : Option V} (h : Q v H) : tVar 8 (a0 :: a1 :: a2 :: a3 :: a4 :: a5 :: a6 :: a7 :: some v :: r) H Q := ⟨v, rfl, h⟩
theorem n8 {a0 a1 a2 a3 a4 a5 a6 a7 : Option V} {Q : L2.St → Hp → Prop} (h : Q (a0 :: a1 :: a2 :: a3 :: a4 :: a5 :: a6 :: a7 :: some v :: r) H) : gName 8 v (a0 :: a1 :: a2 :: a3 :: a4 :: a5 :: a6 :: a7 :: a :: r) H Q := h
theorem g8 {a0 a1 a2 a3 a4 a5 a6 a7 : Option V} {ti : TIp} (h : te (a0 :: a1 :: a2 :: a3 :: a4 :: a5 :: a6 :: a7 :: some x :: r) H fun y H1 => ti x y H1 fun z H2 => D.nx (a0 :: a1 :: a2 :: a3 :: a4 :: a5 :: a6 :: a7 :: some z :: r) H2) : tAug 8 te ti D (a0 :: a1 :: a2 :: a3 :: a4 :: a5 :: a6 :: a7 :: some x :: r) H := ⟨x, rfl, h⟩
theorem v9 {a0 a1 a2 a3 a4 a5 a6 a7 a8 : Option V} (h : Q v H) : tVar 9 (a0 :: a1 :: a2 :: a3 :: a4 :: a5 :: a6 :: a7 :: a8 :: some v :: r) H Q := ⟨v, rfl, h⟩
theorem n9 {a0 a1 a2 a3 a4 a5 a6 a7 a8 : Option V} {Q : L2.St → Hp → Prop} (h : Q (a0 :: a1 :: a2 :: a3 :: a4 :: a5 :: a6 :: a7 :: a8 :: some v :: r) H) : gName 9 v (a0 :: a1 :: a2 :: a3 :: a4 :: a5 :: a6 :: a7 :: a8 :: a :: r) H Q := h
theorem g9 {a0 a1 a2 a3 a4 a5 a6 a7 a8 : Option V} {ti : TIp} (h : te (a0 :: a1 :: a2 :: a3 :: a4 :: a5 :: a6 :: a7 :: a8 :: some x :: r) H fun y H1 => ti x y H1 fun z H2 => D.nx (a0 :: a1 :: a2 :: a3 :: a4 :: a5 :: a6 :: a7 :: a8 :: some z :: r) H2) : tAug 9 te ti D (a0 :: a1 :: a2 :: a3 :: a4 :: a5 :: a6 :: a7 :: a8 :: some x :: r) H := ⟨x, rfl, h⟩
theorem v10 {a0 a1 a2 a3 a4 a5 a6 a7 a8 a9 : Option V} (h : Q v H) : tVar 10 (a0 :: a1 :: a2 :: a3 :: a4 :: a5 :: a6 :: a7 :: a8 :: a9 :: some v :: r) H Q := ⟨v, rfl, h⟩
theorem n10 {a0 a1 a2 a3 a4 a5 a6 a7 a8 a9 : Option V} {Q : L2.St → Hp → Prop} (h : Q (a0 :: a1 :: a2 :: a3 :: a4 :: a5 :: a6 :: a7 :: a8 :: a9 :: some v :: r) H) : gName 10 v (a0 :: a1 :: a2 :: a3 :: a4 :: a5 :: a6 :: a7 :: a8 :: a9 :: a :: r) H Q := h
theorem g10 {a0 a1 a2 a3 a4 a5 a6 a7 a8 a9 : Option V} {ti : TIp} (h : te (a0 :: a1 :: a2 :: a3 :: a4 :: a5 :: a6 :: a7 :: a8 :: a9 :: some x :: r) H fun y H1 => ti x y H1 fun z H2 => D.nx (a0 :: a1 :: a2 :: a3 :: a4 :: a5 :: a6 :: a7 :: a8 :: a9 :: some z :: r) H2) : tAug 10 te ti D (a0 :: a1 :: a2 :: a3 :: a4 :: a5 :: a6 :: a7 :: a8 :: a9 :: some x :: r) H := ⟨x, rfl, h⟩
theorem v11 {a0 a1 a2 a3 a4 a5 a6 a7 a8 a9 a10 : Option V} (h : Q v H) : tVar 11 (a0 :: a1 :: a2 :: a3 :: a4 :: a5 :: a6 :: a7 :: a8 :: a9 :: a10 :: some v :: r) H Q := ⟨v, rfl, h⟩
theorem n11 {a0 a1 a2 a3 a4 a5 a6 a7 a8 a9 a10 : Option V} {Q : L2.St → Hp → Prop} (h : Q (a0 :: a1 :: a2 :: a3 :: a4 :: a5 :: a6 :: a7 :: a8 :: a9 :: a10 :: some v :: r) H) : gName 11 v (a0 :: a1 :: a2 :: a3 :: a4 :: a5 :: a6 :: a7 :: a8 :: a9 :: a10 :: a :: r) H Q := h
theorem g11 {a0 a1 a2 a3 a4 a5 a6 a7 a8 a9 a10 : Option V} {ti : TIp} (h : te (a0 :: a1 :: a2 :: a3 :: a4 :: a5 :: a6 :: a7 :: a8 :: a9 :: a10 :: some x :: r) H fun y H1 => ti x y H1 fun z H2 => D.nx (a0 :: a1 :: a2 :: a3 :: a4 :: a5 :: a6 :: a7 :: a8 :: a9 :: a10 :: some z :: r) H2) : tAug 11 te ti D (a0 :: a1 :: a2 :: a3 :: a4 :: a5 :: a6 :: a7 :: a8 :: a9 :: a10 :: some x :: r) H := ⟨x, rfl, h⟩
theorem v12 {a0 a1 a2 a3 a4 a5 a6 a7 a8 a9 a10 a11 : Option V} (h : Q v H) : tVar 12 (a0 :: a1 :: a2 :: a3 :: a4 :: a5 :: a6 :: a7 :: a8 :: a9 :: a10 :: a11 :: some v :: r) H Q := ⟨v, rfl, h⟩
theorem n12 {a0 a1 a2 a3 a4 a5 a6 a7 a8 a9 a10 a11 : Option V} {Q : L2.St → Hp → Prop} (h : Q (a0 :: a1 :: a2 :: a3 :: a4 :: a5 :: a6 :: a7 :: a8 :: a9 :: a10 :: a11 :: some v :: r) H) : gName 12 v (a0 :: a1 :: a2 :: a3 :: a4 :: a5 :: a6 :: a7 :: a8 :: a9 :: a10 :: a11 :: a :: r) H Q := h
theorem g12 {a0 a1 a2 a3 a4 a5 a6 a7 a8 a9 a10 a11 : Option V} {ti : TIp} (h : te (a0 :: a1 :: a2 :: a3 :: a4 :: a5 :: a6 :: a7 :: a8 :: a9 :: a10 :: a11 :: some x :: r) H fun y H1 => ti x y H1 fun z H2 => D.nx (a0 :: a1 :: a2 :: a3 :: a4 :: a5 :: a6 :: a7 :: a8 :: a9 :: a10 :: a11 :: some z :: r) H2) : tAug 12 te ti D (a0 :: a1 :: a2 :: a3 :: a4 :: a5 :: a6 :: a7 :: a8 :: a9 :: a10 :: a11 :: some x :: r) H := ⟨x, rfl, h⟩
theorem v13 {a0 a1 a2 a3 a4 a5 a6 a7 a8 a9 a10 a11 a12 : Option V} (h : Q v H) : tVar 13 (a0 :: a1 :: a2 :: a3 :: a4 :: a5 :: a6 :: a7 :: a8 :: a9 :: a10 :: a11 :: a12 :: some v :: r) H Q := ⟨v, rfl, h⟩
theorem n13 {a0 a1 a2 a3 a4 a5 a6 a7 a8 a9 a10 a11 a12 : Option V} {Q : L2.St → Hp → Prop} (h : Q (a0 :: a1 :: a2 :: a3 :: a4 :: a5 :: a6 :: a7 :: a8 :: a9 :: a10 :: a11 :: a12 :: some v :: r) H) : gName 13 v (a0 :: a1 :: a2 :: a3 :: a4 :: a5 :: a6 :: a7 :: a8 :: a9 :: a10 :: a11 :: a12 :: a :: r) H Q := h
theorem g13 {a0 a1 a2 a3 a4 a5 a6 a7 a8 a9 a10 a11 a12 : Option V} {ti : TIp} (h : te (a0 :: a1 :: a2 :: a3 :: a4 :: a5 :: a6 :: a7 :: a8 :: a9 :: a10 :: a11 :: a12 :: some x :: r) H fun y H1 => ti x y H1 fun z H2 => D.nx (a0 :: a1 :: a2 :: a3 :: a4 :: a5 :: a6 :: a7 :: a8 :: a9 :: a10 :: a11 :: a12 :: some z :: r) H2) : tAug 13 te ti D (a0 :: a1 :: a2 :: a3 :: a4 :: a5 :: a6 :: a7 :: a8 :: a9 :: a10 :: a11 :: a12 :: some x :: r) H := ⟨x, rfl, h⟩
theorem v14 {a0 a1 a2 a3 a4 a5 a6 a7 a8 a9 a10 a11 a12 a13 : Option V} (h : Q v H) : tVar 14 (a0 :: a1 :: a2 :: a3 :: a4 :: a5 :: a6 :: a7 :: a8 :: a9 :: a10 :: a11 :: a12 :: a13 :: some v :: r) H Q := ⟨v, rfl, h⟩
theorem n14 {a0 a1 a2 a3 a4 a5 a6 a7 a8 a9 a10 a11 a12 a13 : Option V} {Q : L2.St → Hp → Prop} (h : Q (a0 :: a1 :: a2 :: a3 :: a4 :: a5 :: a6 :: a7 :: a8 :: a9 :: a10 :: a11 :: a12 :: a13 :: some v :: r) H) : gName 14 v (a0 :: a1 :: a2 :: a3 :: a4 :: a5 :: a6 :: a7 :: a8 :: a9 :: a10 :: a11 :: a12 :: a13 :: a :: r) H Q := h
theorem g14 {a0 a1 a2 a3 a4 a5 a6 a7 a8 a9 a10 a11 a12 a13 : Option V} {ti : TIp} (h : te (a0 :: a1 :: a2 :: a3 :: a4 :: a5 :: a6 :: a7 :: a8 :: a9 :: a10 :: a11 :: a12 :: a13 :: some x :: r) H fun y H1 => ti x y H1 fun z H2 => D.nx (a0 :: a1 :: a2 :: a3 :: a4 :: a5 :: a6 :: a7 :: a8 :: a9 :: a10 :: a11 :: a12 :: a13 :: some z :: r) H2) : tAug 14 te ti D (a0 :: a1 :: a2 :: a3 :: a4 :: a5 :: a6 :: a7 :: a8 :: a9 :: a10 :: a11 :: a12 :: a13 :: some x :: r) H := ⟨x, rfl, h⟩
theorem v15 {a0 a1 a2 a3 a4 a5 a6 a7 a8 a9 a10 a11 a12 a13 a14 : Option V} (h : Q v H) : tVar 15 (a0 :: a1 :: a2 :: a3 :: a4 :: a5 :: a6 :: a7 :: a8 :: a9 :: a10 :: a11 :: a12 :: a13 :: a14 :: some v :: r) H Q := ⟨v, rfl, h⟩
theorem n15 {a0 a1 a2 a3 a4 a5 a6 a7 a8 a9 a10 a11 a12 a13 a14 : Option V} {Q : L2.St → Hp → Prop} (h : Q (a0 :: a1 :: a2 :: a3 :: a4 :: a5 :: a6 :: a7 :: a8 :: a9 :: a10 :: a11 :: a12 :: a13 :: a14 :: some v :: r) H) : gName 15 v (a0 :: a1 :: a2 :: a3 :: a4 :: a5 :: a6 :: a7 :: a8 :: a9 :: a10 :: a11 :: a12 :: a13 :: a14 :: a :: r) H Q := h
theorem g15 {a0 a1 a2 a3 a4 a5 a6 a7 a8 a9 a10 a11 a12 a13 a14 : Option V} {ti : TIp} (h : te (a0 :: a1 :: a2 :: a3 :: a4 :: a5 :: a6 :: a7 :: a8 :: a9 :: a10 :: a11 :: a12 :: a13 :: a14 :: some x :: r) H fun y H1 => ti x y H1 fun z H2 => D.nx (a0 :: a1 :: a2 :: a3 :: a4 :: a5 :: a6 :: a7 :: a8 :: a9 :: a10 :: a11 :: a12 :: a13 :: a14 :: some z :: r) H2) : tAug 15 te ti D (a0 :: a1 :: a2 :: a3 :: a4 :: a5 :: a6 :: a7 :: a8 :: a9 :: a10 :: a11 :: a12 :: a13 :: a14 :: some x :: r) H := ⟨x, rfl, h⟩
theorem room65 {k : Nat} {A : Around} (r : Room k A) : A.units + 65 < cLine := by
  have := r.un
  omega
/-! ### iterators -/
def lcRest (g : TG) (tt : TT) (te : TE) (vs : List Nat) (σ : L2.St) (Q : VK) (J : It) (H1 : Hp) : Prop := ∀ D, H1 D = none → ∃ W : Nat → Nat → Hp → Prop, (∃ m, W 0 m (upd H1 D (.lst []))) ∧ ∀ i m H, W i m H →
  (J.stop i H ∧ Q (.ref D) H) ∨ (J.go i H ∧ ∃ Nx : Hp → Prop, (∀ H', Nx H' → ∃ m', m' < m ∧ W (i + 1) m' H') ∧ ∀ x H', J.yld i H x H' → g x (wipe σ vs) H' fun σ2 H2 => wipe σ2 vs = wipe σ vs ∧ tt σ2 H2 fun b H3 =>
    if b = true then te σ2 H3 fun y H4 => ∃ acc, H4 D = some (.lst acc) ∧ acc.length < sizeLine ∧ Nx (upd H4 D (.lst (acc ++ [y]))) else Nx H3)
theorem lc {wi : TI} {tt : TT} {ws : List Nat} (h : wi σ H (lcRest g tt te ws σ Q)) : tLc wi g tt te ws σ H Q := h
def forRest (g : TG) (tb : TS) (D : Ends) (σ0 : L2.St) (J : It) (H1 : Hp) : Prop := ∃ W : Nat → Nat → L2.St → Hp → Prop, (∃ m, W 0 m σ0 H1) ∧ ∀ i m σ H, W i m σ H →
  (J.stop i H ∧ D.nx σ H) ∨ (J.go i H ∧ ∃ N : L2.St → Hp → Prop, (∀ σ' H', N σ' H' → ∃ m', m' < m ∧ W (i + 1) m' σ' H') ∧ ∀ x H', J.yld i H x H' → g x σ H' fun σ2 H2 => tb { D with nx := N, ct := N, bk := D.nx } σ2 H2)
theorem for_ {wi : TI} {tb : TS} (h : wi σ H (forRest g tb D σ)) : tFor wi g tb D σ H := h
variable {R : It → Hp → Prop}
theorem ilist (h : te σ H fun x H1 => ∃ a, x = .ref a ∧ (∃ xs, SqL K H1 a xs) ∧ R (Itl K a) H1) : iList K te σ H R := h
theorem itup (h : te σ H fun x H1 => ∃ a, x = .ref a ∧ (∃ xs, SqT K H1 a xs) ∧ R (Itt K a) H1) : iTup K te σ H R := h
theorem irng1 (h : tr σ H fun vs H1 => ∃ j : Int, vs = [.int j] ∧ -(2 ^ 62) ≤ j ∧ j < 2 ^ 62 ∧ R (Itr 0 j.toNat) H1) : iRng1 tr σ H R := h
theorem irng2 (h : tr σ H fun vs H1 => ∃ i j : Int, vs = [.int i, .int j] ∧ (-(2 ^ 62) ≤ i ∧ i < 2 ^ 62 ∧ -(2 ^ 62) ≤ j ∧ j < 2 ^ 62) ∧ R (Itr i (j - i).toNat) H1) : iRng2 tr σ H R := h
theorem ienum (h : tr σ H fun vs H1 => ∃ a xs, vs = [.ref a] ∧ SqL K H1 a xs ∧ R (Ite K a) H1) : iEnum K tr σ H R := h
theorem istr (h : te σ H fun v H1 => ∃ x, v = .str x ∧ R (Its x) H1) : iStr te σ H R := h
theorem refA {a : Addr} {P : Addr → Prop} (h : P a) : ∃ b, V.ref a = .ref b ∧ P b := ⟨a, rfl, h⟩
theorem strA {a : Str} {P : Str → Prop} (h : P a) : ∃ b, V.str a = .str b ∧ P b := ⟨a, rfl, h⟩
theorem sqA {l : Addr} {xs : List V} {A : Prop} (h : H l = some (.lst xs)) (q : A) : (∃ xs, SqL K H l xs) ∧ A := ⟨⟨_, SqL.of h⟩, q⟩
theorem sqAq {l : Addr} {xs : List V} {A : Prop} (h : SqL K H l xs) (q : A) : (∃ xs, SqL K H l xs) ∧ A := ⟨⟨_, h⟩, q⟩
theorem stA {l : Addr} {xs : List V} {A : Prop} (h : H l = some (.tup xs)) (q : A) : (∃ xs, SqT K H l xs) ∧ A := ⟨⟨_, SqT.of h⟩, q⟩
theorem stAq {l : Addr} {xs : List V} {A : Prop} (h : SqT K H l xs) (q : A) : (∃ xs, SqT K H l xs) ∧ A := ⟨⟨_, h⟩, q⟩
theorem enA {l : Addr} {xs : List V} {P : Addr → Prop} (h : H l = some (.lst xs)) (q : P l) : ∃ a ys, [V.ref l] = [.ref a] ∧ SqL K H a ys ∧ P a := ⟨l, xs, rfl, SqL.of h, q⟩
theorem enAq {l : Addr} {xs : List V} {P : Addr → Prop} (h : SqL K H l xs) (q : P l) : ∃ a ys, [V.ref l] = [.ref a] ∧ SqL K H a ys ∧ P a := ⟨l, xs, rfl, h, q⟩
theorem lenL {l : Addr} {xs : List V} {P : List V → Prop} (h : H l = some (.lst xs)) (q : P xs) : ∃ p ys, [V.ref l] = [.ref p] ∧ (SqL K H p ys ∨ SqT K H p ys) ∧ P ys := ⟨l, xs, rfl, .inl (SqL.of h), q⟩
theorem lenLq {l : Addr} {xs : List V} {P : List V → Prop} (h : SqL K H l xs) (q : P xs) : ∃ p ys, [V.ref l] = [.ref p] ∧ (SqL K H p ys ∨ SqT K H p ys) ∧ P ys := ⟨l, xs, rfl, .inl h, q⟩
theorem lenTq {l : Addr} {xs : List V} {P : List V → Prop} (h : SqT K H l xs) (q : P xs) : ∃ p ys, [V.ref l] = [.ref p] ∧ (SqL K H p ys ∨ SqT K H p ys) ∧ P ys := ⟨l, xs, rfl, .inr h, q⟩
theorem lenT {l : Addr} {xs : List V} {P : List V → Prop} (h : H l = some (.tup xs)) (q : P xs) : ∃ p ys, [V.ref l] = [.ref p] ∧ (SqL K H p ys ∨ SqT K H p ys) ∧ P ys := ⟨l, xs, rfl, .inr (SqT.of h), q⟩
/-! ### comprehensions: each element by a relation -/
def But (D : Addr) (H H' : Hp) : Prop := ∀ b o, b ≠ D → H b = some o → H' b = some o
theorem But.refl {D : Addr} : But D H H := fun _ _ _ h => h
theorem But.trans {D : Addr} {H H1 H2 : Hp} (a : But D H H1) (b : But D H1 H2) : But D H H2 := fun x o n h => b x o n (a x o n h)
theorem But.same {D : Addr} {H H1 : Hp} (a : Same H H1) : But D H H1 := fun x o _ h => a x o h
theorem But.at_ {D : Addr} {o : HO} : But D H (upd H D o) := fun x u n h => by rw [upd_ne n]; exact h
theorem But.to {D : Addr} {H H1 : Hp} (a : But D H H1) (n : H D = none) : Same H H1 := fun x o h => a x o (fun z => by rw [z, n] at h; cases h) h
theorem lc_rel {J : It} {n : Nat} {G : Hp → Prop} {Y : Nat → Hp → V → Hp → Prop} (w : Walk J n G Y) {g : TG} {te : TE} {vs : List Nat} {σ : L2.St} {H1 : Hp} {D : Addr} {Qd : Hp → Prop} (R : Nat → V → Hp → Prop)
    (nD : H1 D = none) (hn : n ≤ 100000) (mono : ∀ i v H H', R i v H → But D H H' → R i v H') (hG : ∀ H, But D H1 H → G H)
    (hs : ∀ i x H H' (Kt : VK), i < n → But D H1 H → (∃ xs, H D = some (.lst xs)) → Y i H x H' → (∀ y H4, R i y H4 → Same H H4 → Kt y H4) → g x (wipe σ vs) H' fun σ2 H2 => wipe σ2 vs = wipe σ vs ∧ te σ2 H2 Kt)
    (hd : ∀ H ys, ys.length = n → (∀ i v, ys[i]? = some v → R i v H) → Same H1 H → H D = some (.lst ys) → Qd H) :
    ∃ W : Nat → Nat → Hp → Prop, (∃ m, W 0 m (upd H1 D (.lst []))) ∧ ∀ i m H, W i m H →
      (J.stop i H ∧ Qd H) ∨ (J.go i H ∧ ∃ Nx : Hp → Prop, (∀ H', Nx H' → ∃ m', m' < m ∧ W (i + 1) m' H') ∧ ∀ x H', J.yld i H x H' → g x (wipe σ vs) H' fun σ2 H2 => wipe σ2 vs = wipe σ vs ∧ tYes σ2 H2 fun b H3 =>
        if b = true then te σ2 H3 fun y H4 => ∃ acc, H4 D = some (.lst acc) ∧ acc.length < sizeLine ∧ Nx (upd H4 D (.lst (acc ++ [y]))) else Nx H3) := by
  refine lc_it w (fun i H => ∃ ys, ys.length = i ∧ (∀ i v, ys[i]? = some v → R i v H) ∧ But D H1 H ∧ H D = some (.lst ys)) ⟨[], rfl, fun i v h => by simp at h, But.at_, upd_same⟩ (fun i H _ h => ?_) (fun i x H H' hi h y => ?_) (fun H h => ?_)
  · obtain ⟨_, _, _, b, _⟩ := h
    exact hG H b
  · obtain ⟨ys, hl, hr, b, hD⟩ := h
    refine hs i x H H' _ hi b ⟨_, hD⟩ y fun v H4 r sm => ?_
    refine ⟨ys, sm _ _ hD, szl (by omega), ys ++ [v], by simp [hl], fun j u hj => ?_, (b.trans (But.same sm)).trans But.at_, upd_same⟩
    by_cases hj2 : j < ys.length
    · rw [List.getElem?_append_left hj2] at hj
      exact mono _ _ _ _ (hr j u hj) ((But.same sm).trans But.at_)
    · have e : j = ys.length := by
        have := (List.getElem?_eq_some_iff.mp hj).1
        simp at this; omega
      subst e
      rw [List.getElem?_append_right (Nat.le_refl _)] at hj
      simp at hj
      subst hj
      rw [hl]
      exact mono _ _ _ _ r But.at_
  · obtain ⟨ys, hl, hr, b, hD⟩ := h
    exact hd H ys hl hr (b.to nD) hD
/-! ### tests, ints in lists -/
theorem ifD {p : Prop} [Decidable p] {A B : Prop} (h1 : p → A) (h2 : ¬ p → B) : if decide p = true then A else B := by
  by_cases h : p
  · rw [decide_eq_true h, if_pos rfl]; exact h1 h
  · rw [decide_eq_false h, if_neg Bool.false_ne_true]; exact h2 h
theorem ifN {p : Prop} [Decidable p] {A B : Prop} (h1 : ¬ p → A) (h2 : p → B) : if (!decide p) = true then A else B := by
  by_cases h : p
  · rw [decide_eq_true h, if_neg (by decide)]; exact h2 h
  · rw [decide_eq_false h, if_pos (by decide)]; exact h1 h
theorem ifT {A B : Prop} (h : A) : if true = true then A else B := by rw [if_pos rfl]; exact h
theorem ifF {A B : Prop} (h : B) : if false = true then A else B := by rw [if_neg Bool.false_ne_true]; exact h
theorem ifB {b : Bool} {A B : Prop} (h1 : b = true → A) (h2 : b = false → B) : if b = true then A else B := by
  cases b with
  | true => exact ifT (h1 rfl)
  | false => exact ifF (h2 rfl)
theorem ifNB {b : Bool} {A B : Prop} (h1 : b = false → A) (h2 : b = true → B) : if (!b) = true then A else B := by
  cases b with
  | true => exact ifF (h2 rfl)
  | false => exact ifT (h1 rfl)
theorem flat_ints (ns : List Int) : (ns.map V.int).all flatV = true := by
  rw [List.all_eq_true]
  intro x hx
  obtain ⟨i, _, rfl⟩ := List.mem_map.mp hx
  rfl
theorem flat_strs (ns : List Str) : (ns.map V.str).all flatV = true := by
  rw [List.all_eq_true]
  intro x hx
  obtain ⟨i, _, rfl⟩ := List.mem_map.mp hx
  rfl
theorem eqV_ints (a b : Int) : eqV (.int a) (.int b) = decide (a = b) := by
  by_cases h : a = b <;> simp [eqV, h]
theorem inV_ints (x : Int) (r : List Int) : inV (.int x) (r.map V.int) = decide (x ∈ r) := by
  unfold inV
  rw [List.any_map]
  by_cases h : x ∈ r
  · rw [decide_eq_true h, List.any_eq_true]
    exact ⟨x, h, beq_self_eq_true x⟩
  · rw [decide_eq_false h, List.any_eq_false]
    intro y hy e
    have e2 : (y == x) = true := e
    exact h (by rw [← eq_of_beq e2]; exact hy)
theorem first_at (ns : List Int) (n : Int) (h : n ∈ ns) : ∃ j : Nat, ns[j]? = some n ∧ ∀ i, i < j → ns[i]? ≠ some n := by
  induction ns with
  | nil => simp at h
  | cons a r ih =>
    by_cases e : a = n
    · exact ⟨0, by simp [e], fun i hi => absurd hi (Nat.not_lt_zero _)⟩
    · obtain ⟨j, h1, h2⟩ := ih ((List.mem_cons.mp h).resolve_left fun z => e z.symm)
      refine ⟨j + 1, by simpa using h1, fun i hi => ?_⟩
      cases i with
      | zero => simp [e]
      | succ i => simpa using h2 i (by omega)
theorem inI {p : Addr} {ns : List Int} {n : Int} (h : H p = some (.lst (ns.map V.int))) (q : Q (.bl (decide (n ∈ ns))) H) : rIn K false (.int n) (.ref p) H Q :=
  ⟨p, _, rfl, .inl (SqL.of h), rfl, flat_ints _, by rw [inV_ints]; exact q⟩
theorem ninI {p : Addr} {ns : List Int} {n : Int} (h : H p = some (.lst (ns.map V.int))) (q : Q (.bl (!decide (n ∈ ns))) H) : rIn K true (.int n) (.ref p) H Q :=
  ⟨p, _, rfl, .inl (SqL.of h), rfl, flat_ints _, by rw [inV_ints]; exact q⟩
theorem idxI {a : Addr} {ns : List Int} {n : Int} {j : Nat} (h : H a = some (.lst (ns.map V.int))) (hj : ns[j]? = some n) (hf : ∀ i, i < j → ns[i]? ≠ some n) (q : Q (.int (j : Nat)) H) : rIndex K (.ref a) [.int n] H Q :=
  ⟨a, _, _, j, .int n, rfl, rfl, SqL.of h, rfl, flat_ints _, by rw [List.getElem?_map, hj]; rfl, by rw [eqV_ints, decide_eq_true rfl], fun m z' hm hz => by
    rw [List.getElem?_map] at hz
    cases e : ns[m]? with
    | none => rw [e] at hz; cases hz
    | some x =>
      rw [e] at hz; cases hz
      rw [eqV_ints]
      exact decide_eq_false fun e2 => hf m hm (by rw [e, e2]), q⟩
theorem vals_map {n : Nat} {ns : List V} (f : Nat → Int) (ln : ns.length = n) (hn : ∀ (i : Nat) v, ns[i]? = some v → v = .int (f i)) : ns = ((List.range n).map f).map V.int := by
  refine List.ext_getElem? fun i => ?_
  rw [List.map_map, List.getElem?_map]
  by_cases hi : i < n
  · obtain ⟨v, hv⟩ : ∃ v, ns[i]? = some v := ⟨_, List.getElem?_eq_getElem (by omega)⟩
    rw [hv, List.getElem?_range hi, hn i v hv]
    rfl
  · rw [List.getElem?_eq_none (by omega), List.getElem?_eq_none (by rw [List.length_range]; omega)]
    rfl
theorem at_int {ns : List Int} {i : Int} {j : Nat} {n : Int} (e : i = (j : Int)) (h : ns[j]? = some n) : atI (ns.map V.int) i = some (.int n) := by
  subst e
  exact atI_nat (by rw [List.getElem?_map, h]; rfl)
theorem at_val {xs : List V} {i : Int} {j : Nat} (e : i = (j : Int)) (h : xs[j]? = some v) : atI xs i = some v := by
  subst e
  exact atI_nat h
theorem zr {i : Nat} {H H' : Hp} (y : YFn (fun (i : Nat) => V.int ((0 : Int) + (i : Int))) i H x H') : x = .int (i : Int) ∧ H' = H := by
  obtain ⟨a, b⟩ := y
  exact ⟨by rw [b]; show V.int (0 + (i : Int)) = _; rw [Int.zero_add], a⟩
/-! ### new objects, by what they leave -/
def NewT (Q : VK) (xs : List V) (H : Hp) : Prop := xs.length ≤ sizeLine ∧ ∀ p, H p = none → Q (.ref p) (upd H p (.tup xs))
def NewL (Q : VK) (xs : List V) (H : Hp) : Prop := xs.length ≤ sizeLine ∧ ∀ p, H p = none → Q (.ref p) (upd H p (.lst xs))
theorem tupN (h : tr σ H (NewT Q)) : tTup tr σ H Q := h
theorem lstN (h : tr σ H (NewL Q)) : tLst tr σ H Q := h
theorem nwT {xs : List V} (s : xs.length ≤ sizeLine) (h : ∀ p H', H p = none → Same H H' → H' p = some (.tup xs) → Q (.ref p) H') : NewT Q xs H := ⟨s, fun p np => h p _ np (same_new np) upd_same⟩
theorem nwL {xs : List V} (s : xs.length ≤ sizeLine) (h : ∀ p H', H p = none → Same H H' → H' p = some (.lst xs) → Q (.ref p) H') : NewL Q xs H := ⟨s, fun p np => h p _ np (same_new np) upd_same⟩
def ListOf (K : PySem.W.Frag) (Q : VK) (vs : List V) (H : Hp) : Prop := ∃ p ys, vs = [.ref p] ∧ (SqL K H p ys ∨ SqT K H p ys) ∧ ∀ l, H l = none → Q (.ref l) (upd H l (.lst ys))
theorem cbListOf (h : tr σ H (ListOf K Q)) : tCB (fun xs H Q => ∃ p ys, xs = [.ref p] ∧ (SqL K H p ys ∨ SqT K H p ys) ∧ ∀ l, H l = none → Q (.ref l) (upd H l (.lst ys))) tr σ H Q := h
theorem listOfq {a : Addr} {ys : List V} (s : SqL K H a ys) (h : ∀ p H', H p = none → Same H H' → H' p = some (.lst ys) → Q (.ref p) H') : ListOf K Q [.ref a] H := ⟨a, ys, rfl, .inl s, fun p np => h p _ np (same_new np) upd_same⟩
theorem listOf {a : Addr} {ys : List V} (s : H a = some (.lst ys)) (h : ∀ p H', H p = none → Same H H' → H' p = some (.lst ys) → Q (.ref p) H') : ListOf K Q [.ref a] H := listOfq (SqL.of s) h
def SlL (K : PySem.W.Frag) (x : V) (lo hi : Option Int) (Q : VK) (H : Hp) : Prop := ∃ a xs, x = .ref a ∧ SqL K H a xs ∧ ∀ p, H p = none → Q (.ref p) (upd H p (.lst (cutV xs lo hi)))
theorem slN {tl th : TO} (h : te σ H fun x H1 => tl σ H1 fun l H2 => th σ H2 fun u H3 => SlL K x l u Q H3) : L2.tSl (rSlL K) te tl th σ H Q := h
theorem slq {a : Addr} {xs : List V} {lo hi : Option Int} (s : SqL K H a xs) (h : ∀ p H', H p = none → Same H H' → H' p = some (.lst (cutV xs lo hi)) → Q (.ref p) H') : SlL K (.ref a) lo hi Q H := ⟨a, xs, rfl, s, fun p np => h p _ np (same_new np) upd_same⟩
theorem slo {a : Addr} {xs : List V} {lo hi : Option Int} (s : H a = some (.lst xs)) (h : ∀ p H', H p = none → Same H H' → H' p = some (.lst (cutV xs lo hi)) → Q (.ref p) H') : SlL K (.ref a) lo hi Q H := slq (SqL.of s) h
def SrtI (K : PySem.W.Frag) (Q : VK) (vs : List V) (H : Hp) : Prop := rSortedI K vs H Q
theorem cbSrtI (h : tr σ H (SrtI K Q)) : tCB (rSortedI K) tr σ H Q := h
theorem srtI {a : Addr} {ns : List Int} (s : SqL K H a (ns.map V.int)) (h : ∀ (ns' : List Int) p H', ns'.Perm ns → ns'.Pairwise (· ≤ ·) → H p = none → Same H H' → H' p = some (.lst (ns'.map V.int)) → Q (.ref p) H') : SrtI K Q [.ref a] H :=
  ⟨a, ns, rfl, s, fun ns' p e1 e2 np => h ns' p _ e1 e2 np (same_new np) upd_same⟩
theorem srtIo {a : Addr} {ns : List Int} (s : H a = some (.lst (ns.map V.int))) (h : ∀ (ns' : List Int) p H', ns'.Perm ns → ns'.Pairwise (· ≤ ·) → H p = none → Same H H' → H' p = some (.lst (ns'.map V.int)) → Q (.ref p) H') : SrtI K Q [.ref a] H := srtI (SqL.of s) h
theorem eqD {d e : PyData} (h1 : Dp K H x d) (h2 : Dp K H y e) (s1 : SeqAt.shaped d = true) (s2 : SeqAt.shaped e = true) (q : Q (.bl (PyData.eqv d e)) H) : rEqD K x y H Q := ⟨d, e, h1, h2, s1, s2, q⟩
theorem neD {d e : PyData} (h1 : Dp K H x d) (h2 : Dp K H y e) (s1 : SeqAt.shaped d = true) (s2 : SeqAt.shaped e = true) (q : Q (.bl (!PyData.eqv d e)) H) : rNeD K x y H Q := ⟨d, e, h1, h2, s1, s2, q⟩
/-! ### isinstance -/
theorem isi {T U : String} {b : Bool} (t : TyX K H x (.type T)) (k : kitB T U = some b) (q : Q (.bl b) H) : rIsi K [x, .ty U] H Q := ⟨x, .ty U, _, _, b, rfl, .ty _, t, kit_ty k, q⟩
theorem isi_ii {n : Int} (q : Q (.bl true) H) : rIsi K [.int n, .ty "int"] H Q := isi (.base (.int _)) (by decide +kernel) q
theorem isi_ib {n : Int} (q : Q (.bl false) H) : rIsi K [.int n, .ty "bool"] H Q := isi (.base (.int _)) (by decide +kernel) q
theorem isi_is {n : Int} (q : Q (.bl false) H) : rIsi K [.int n, .ty "str"] H Q := isi (.base (.int _)) (by decide +kernel) q
theorem isi_il {n : Int} (q : Q (.bl false) H) : rIsi K [.int n, .ty "list"] H Q := isi (.base (.int _)) (by decide +kernel) q
theorem isi_it {n : Int} (q : Q (.bl false) H) : rIsi K [.int n, .ty "tuple"] H Q := isi (.base (.int _)) (by decide +kernel) q
theorem isi_id {n : Int} (q : Q (.bl false) H) : rIsi K [.int n, .ty "dict"] H Q := isi (.base (.int _)) (by decide +kernel) q
theorem isi_bi {n : Bool} (q : Q (.bl true) H) : rIsi K [.bl n, .ty "int"] H Q := isi (.base (.bl _)) (by decide +kernel) q
theorem isi_bb {n : Bool} (q : Q (.bl true) H) : rIsi K [.bl n, .ty "bool"] H Q := isi (.base (.bl _)) (by decide +kernel) q
theorem isi_bs {n : Bool} (q : Q (.bl false) H) : rIsi K [.bl n, .ty "str"] H Q := isi (.base (.bl _)) (by decide +kernel) q
theorem isi_bl {n : Bool} (q : Q (.bl false) H) : rIsi K [.bl n, .ty "list"] H Q := isi (.base (.bl _)) (by decide +kernel) q
theorem isi_bt {n : Bool} (q : Q (.bl false) H) : rIsi K [.bl n, .ty "tuple"] H Q := isi (.base (.bl _)) (by decide +kernel) q
theorem isi_bd {n : Bool} (q : Q (.bl false) H) : rIsi K [.bl n, .ty "dict"] H Q := isi (.base (.bl _)) (by decide +kernel) q
theorem isi_si {n : Str} (q : Q (.bl false) H) : rIsi K [.str n, .ty "int"] H Q := isi (.base (.str _)) (by decide +kernel) q
theorem isi_sb {n : Str} (q : Q (.bl false) H) : rIsi K [.str n, .ty "bool"] H Q := isi (.base (.str _)) (by decide +kernel) q
theorem isi_ss {n : Str} (q : Q (.bl true) H) : rIsi K [.str n, .ty "str"] H Q := isi (.base (.str _)) (by decide +kernel) q
theorem isi_sl {n : Str} (q : Q (.bl false) H) : rIsi K [.str n, .ty "list"] H Q := isi (.base (.str _)) (by decide +kernel) q
theorem isi_st {n : Str} (q : Q (.bl false) H) : rIsi K [.str n, .ty "tuple"] H Q := isi (.base (.str _)) (by decide +kernel) q
theorem isi_sd {n : Str} (q : Q (.bl false) H) : rIsi K [.str n, .ty "dict"] H Q := isi (.base (.str _)) (by decide +kernel) q
theorem isi_li {n : Addr} {xs : List V} (h : H n = some (.lst xs)) (q : Q (.bl false) H) : rIsi K [.ref n, .ty "int"] H Q := isi (.base (.lst h)) (by decide +kernel) q
theorem isi_lb {n : Addr} {xs : List V} (h : H n = some (.lst xs)) (q : Q (.bl false) H) : rIsi K [.ref n, .ty "bool"] H Q := isi (.base (.lst h)) (by decide +kernel) q
theorem isi_ls {n : Addr} {xs : List V} (h : H n = some (.lst xs)) (q : Q (.bl false) H) : rIsi K [.ref n, .ty "str"] H Q := isi (.base (.lst h)) (by decide +kernel) q
theorem isi_ll {n : Addr} {xs : List V} (h : H n = some (.lst xs)) (q : Q (.bl true) H) : rIsi K [.ref n, .ty "list"] H Q := isi (.base (.lst h)) (by decide +kernel) q
theorem isi_lt {n : Addr} {xs : List V} (h : H n = some (.lst xs)) (q : Q (.bl false) H) : rIsi K [.ref n, .ty "tuple"] H Q := isi (.base (.lst h)) (by decide +kernel) q
theorem isi_ld {n : Addr} {xs : List V} (h : H n = some (.lst xs)) (q : Q (.bl false) H) : rIsi K [.ref n, .ty "dict"] H Q := isi (.base (.lst h)) (by decide +kernel) q
theorem isi_ti {n : Addr} {xs : List V} (h : H n = some (.tup xs)) (q : Q (.bl false) H) : rIsi K [.ref n, .ty "int"] H Q := isi (.base (.tup h)) (by decide +kernel) q
theorem isi_tb {n : Addr} {xs : List V} (h : H n = some (.tup xs)) (q : Q (.bl false) H) : rIsi K [.ref n, .ty "bool"] H Q := isi (.base (.tup h)) (by decide +kernel) q
theorem isi_ts {n : Addr} {xs : List V} (h : H n = some (.tup xs)) (q : Q (.bl false) H) : rIsi K [.ref n, .ty "str"] H Q := isi (.base (.tup h)) (by decide +kernel) q
theorem isi_tl {n : Addr} {xs : List V} (h : H n = some (.tup xs)) (q : Q (.bl false) H) : rIsi K [.ref n, .ty "list"] H Q := isi (.base (.tup h)) (by decide +kernel) q
theorem isi_tt {n : Addr} {xs : List V} (h : H n = some (.tup xs)) (q : Q (.bl true) H) : rIsi K [.ref n, .ty "tuple"] H Q := isi (.base (.tup h)) (by decide +kernel) q
theorem isi_td {n : Addr} {xs : List V} (h : H n = some (.tup xs)) (q : Q (.bl false) H) : rIsi K [.ref n, .ty "dict"] H Q := isi (.base (.tup h)) (by decide +kernel) q
theorem isi_ni  (q : Q (.bl false) H) : rIsi K [.non, .ty "int"] H Q := isi (.base .non) (by decide +kernel) q
theorem isi_nb  (q : Q (.bl false) H) : rIsi K [.non, .ty "bool"] H Q := isi (.base .non) (by decide +kernel) q
theorem isi_ns  (q : Q (.bl false) H) : rIsi K [.non, .ty "str"] H Q := isi (.base .non) (by decide +kernel) q
theorem isi_nl  (q : Q (.bl false) H) : rIsi K [.non, .ty "list"] H Q := isi (.base .non) (by decide +kernel) q
theorem isi_nt  (q : Q (.bl false) H) : rIsi K [.non, .ty "tuple"] H Q := isi (.base .non) (by decide +kernel) q
theorem isi_nd  (q : Q (.bl false) H) : rIsi K [.non, .ty "dict"] H Q := isi (.base .non) (by decide +kernel) q
/-! ### slices of lists -/
theorem cut_to (xs : List V) (n : Nat) : cutV xs none (some (n : Int)) = xs.take n := by
  unfold cutV
  rw [HT.sIx_nat, HT.sIx_none, List.drop_zero, Nat.sub_zero]
  rcases Nat.le_total n xs.length with h | h
  · rw [Nat.min_eq_left h]
  · rw [Nat.min_eq_right h, List.take_of_length_le (Nat.le_refl _), List.take_of_length_le h]
theorem cut_from (xs : List V) (n : Nat) : cutV xs (some (n : Int)) none = xs.drop n := by
  unfold cutV
  rw [HT.sIx_nat, HT.sIx_none]
  rcases Nat.le_total n xs.length with h | h
  · rw [Nat.min_eq_left h, List.take_of_length_le (by rw [List.length_drop]; omega)]
  · rw [Nat.min_eq_right h, List.drop_of_length_le h, List.drop_of_length_le (Nat.le_refl _), List.take_nil]
theorem eqv_self (d : PyData) (h : d.canLay0 = true) : PyData.eqv d d = true := PySem.SeqAt.eqv_refl d h
/-! ### ints of a list, filtered -/
theorem lc_fl {a : Addr} {ns : List Int} {g : TG} {tt : TT} {te : TE} {vs : List Nat} {σ : L2.St} {H1 : Hp} {C : Addr} {Qd : Hp → Prop} (p : Int → Bool) (hS : SqL K H1 a (ns.map V.int)) (nD : H1 C = none) (hn : ns.length ≤ 90000)
    (hs : ∀ (i : Nat) H (n : Int) (Kt : VK) (Kn : Hp → Prop), ns[i]? = some n → But C H1 H → (p n = true → Kt (.int n) H) → (p n = false → Kn H) → g (.int n) (wipe σ vs) H fun σ2 H2 => wipe σ2 vs = wipe σ vs ∧ tt σ2 H2 fun b H3 => if b = true then te σ2 H3 Kt else Kn H3)
    (hd : ∀ H, Same H1 H → H C = some (.lst ((ns.filter p).map V.int)) → Qd H) :
    ∃ W : Nat → Nat → Hp → Prop, (∃ m, W 0 m (upd H1 C (.lst []))) ∧ ∀ i m H, W i m H →
      ((Itl K a).stop i H ∧ Qd H) ∨ ((Itl K a).go i H ∧ ∃ Nx : Hp → Prop, (∀ H', Nx H' → ∃ m', m' < m ∧ W (i + 1) m' H') ∧ ∀ x H', (Itl K a).yld i H x H' → g x (wipe σ vs) H' fun σ2 H2 => wipe σ2 vs = wipe σ vs ∧ tt σ2 H2 fun b H3 =>
        if b = true then te σ2 H3 fun y H4 => ∃ acc, H4 C = some (.lst acc) ∧ acc.length < sizeLine ∧ Nx (upd H4 C (.lst (acc ++ [y]))) else Nx H3) := by
  refine lc_it (walk_list (xs := ns.map V.int)) (fun i H => But C H1 H ∧ H C = some (.lst (((ns.take i).filter p).map V.int))) ⟨But.at_, by simp [upd_same]⟩ (fun i H _ h => (h.1.to nD).seq hS) (fun i x H H' hi ⟨b, hD⟩ y => ?_) (fun H ⟨b, hD⟩ => ?_)
  · obtain ⟨rfl, hx⟩ := y
    rw [List.getElem?_map] at hx
    obtain ⟨n, hn2, rfl⟩ : ∃ n, ns[i]? = some n ∧ V.int n = x := by
      cases e : ns[i]? with
      | none => rw [e] at hx; cases hx
      | some n => rw [e] at hx; exact ⟨n, rfl, Option.some.inj hx⟩
    have tk : (ns.take (i + 1)).filter p = (ns.take i).filter p ++ [n].filter p := by
      rw [List.take_add_one, hn2, List.filter_append]; rfl
    refine hs i _ n _ _ hn2 b (fun hp => ?_) (fun hp => ?_)
    · refine ⟨_, hD, szl ?_, b.trans But.at_, ?_⟩
      · rw [List.length_map]
        have := List.length_filter_le p (ns.take i)
        rw [List.length_take] at this
        omega
      · rw [upd_same, tk, List.filter_cons_of_pos hp]
        simp
    · refine ⟨b, ?_⟩
      rw [tk, List.filter_cons_of_neg (by simp [hp])]
      simpa using hD
  · rw [List.length_map, List.take_of_length_le (Nat.le_refl _)] at hD
    exact hd H (b.to nD) hD
theorem intI {i : Int} {A : Int → Prop} {B : Prop} (h : A i) : (∃ j, [V.int i] = [.int j] ∧ A j) ∨ B := .inl ⟨i, rfl, h⟩
theorem pos_ne {i : Int} (h : 0 < i) : i ≠ 0 := by omega
theorem ifnT {A B : Prop} (h : B) : if (!true) = true then A else B := by rw [if_neg (by decide)]; exact h
theorem ifnF {A B : Prop} (h : A) : if (!false) = true then A else B := by rw [if_pos (by decide)]; exact h
theorem cbListOfR {tr : TA} (h : tr σ H (ListOf K Q)) : tCB (rListOf K) tr σ H Q := h
def CatL (Q : VK) (x y : V) (H : Hp) : Prop := ∃ l b xs zs, x = .ref l ∧ y = .ref b ∧ H l = some (.lst xs) ∧ H b = some (.lst zs) ∧ xs.length + zs.length ≤ sizeLine ∧ ∀ p, H p = none → Q (.ref p) (upd H p (.lst (xs ++ zs)))
theorem catI (h : CatL Q x y H) : rCat x y H Q := h
theorem cat {a b : Addr} {xs zs : List V} (h1 : H a = some (.lst xs)) (h2 : H b = some (.lst zs)) (s : xs.length + zs.length ≤ 100000) (h : ∀ p H', H p = none → Same H H' → H' p = some (.lst (xs ++ zs)) → Q (.ref p) H') : CatL Q (.ref a) (.ref b) H := ⟨a, b, xs, zs, rfl, rfl, h1, h2, sz s, fun p np => h p _ np (same_new np) upd_same⟩
theorem v16 {a0 a1 a2 a3 a4 a5 a6 a7 a8 a9 a10 a11 a12 a13 a14 a15 : Option V} (h : Q v H) : tVar 16 (a0 :: a1 :: a2 :: a3 :: a4 :: a5 :: a6 :: a7 :: a8 :: a9 :: a10 :: a11 :: a12 :: a13 :: a14 :: a15 :: some v :: r) H Q := ⟨v, rfl, h⟩
theorem n16 {a0 a1 a2 a3 a4 a5 a6 a7 a8 a9 a10 a11 a12 a13 a14 a15 : Option V} {Q : L2.St → Hp → Prop} (h : Q (a0 :: a1 :: a2 :: a3 :: a4 :: a5 :: a6 :: a7 :: a8 :: a9 :: a10 :: a11 :: a12 :: a13 :: a14 :: a15 :: some v :: r) H) : gName 16 v (a0 :: a1 :: a2 :: a3 :: a4 :: a5 :: a6 :: a7 :: a8 :: a9 :: a10 :: a11 :: a12 :: a13 :: a14 :: a15 :: a :: r) H Q := h
theorem g16 {a0 a1 a2 a3 a4 a5 a6 a7 a8 a9 a10 a11 a12 a13 a14 a15 : Option V} {ti : TIp} (h : te (a0 :: a1 :: a2 :: a3 :: a4 :: a5 :: a6 :: a7 :: a8 :: a9 :: a10 :: a11 :: a12 :: a13 :: a14 :: a15 :: some x :: r) H fun y H1 => ti x y H1 fun z H2 => D.nx (a0 :: a1 :: a2 :: a3 :: a4 :: a5 :: a6 :: a7 :: a8 :: a9 :: a10 :: a11 :: a12 :: a13 :: a14 :: a15 :: some z :: r) H2) : tAug 16 te ti D (a0 :: a1 :: a2 :: a3 :: a4 :: a5 :: a6 :: a7 :: a8 :: a9 :: a10 :: a11 :: a12 :: a13 :: a14 :: a15 :: some x :: r) H := ⟨x, rfl, h⟩
theorem v17 {a0 a1 a2 a3 a4 a5 a6 a7 a8 a9 a10 a11 a12 a13 a14 a15 a16 : Option V} (h : Q v H) : tVar 17 (a0 :: a1 :: a2 :: a3 :: a4 :: a5 :: a6 :: a7 :: a8 :: a9 :: a10 :: a11 :: a12 :: a13 :: a14 :: a15 :: a16 :: some v :: r) H Q := ⟨v, rfl, h⟩
theorem n17 {a0 a1 a2 a3 a4 a5 a6 a7 a8 a9 a10 a11 a12 a13 a14 a15 a16 : Option V} {Q : L2.St → Hp → Prop} (h : Q (a0 :: a1 :: a2 :: a3 :: a4 :: a5 :: a6 :: a7 :: a8 :: a9 :: a10 :: a11 :: a12 :: a13 :: a14 :: a15 :: a16 :: some v :: r) H) : gName 17 v (a0 :: a1 :: a2 :: a3 :: a4 :: a5 :: a6 :: a7 :: a8 :: a9 :: a10 :: a11 :: a12 :: a13 :: a14 :: a15 :: a16 :: a :: r) H Q := h
theorem g17 {a0 a1 a2 a3 a4 a5 a6 a7 a8 a9 a10 a11 a12 a13 a14 a15 a16 : Option V} {ti : TIp} (h : te (a0 :: a1 :: a2 :: a3 :: a4 :: a5 :: a6 :: a7 :: a8 :: a9 :: a10 :: a11 :: a12 :: a13 :: a14 :: a15 :: a16 :: some x :: r) H fun y H1 => ti x y H1 fun z H2 => D.nx (a0 :: a1 :: a2 :: a3 :: a4 :: a5 :: a6 :: a7 :: a8 :: a9 :: a10 :: a11 :: a12 :: a13 :: a14 :: a15 :: a16 :: some z :: r) H2) : tAug 17 te ti D (a0 :: a1 :: a2 :: a3 :: a4 :: a5 :: a6 :: a7 :: a8 :: a9 :: a10 :: a11 :: a12 :: a13 :: a14 :: a15 :: a16 :: some x :: r) H := ⟨x, rfl, h⟩
theorem v18 {a0 a1 a2 a3 a4 a5 a6 a7 a8 a9 a10 a11 a12 a13 a14 a15 a16 a17 : Option V} (h : Q v H) : tVar 18 (a0 :: a1 :: a2 :: a3 :: a4 :: a5 :: a6 :: a7 :: a8 :: a9 :: a10 :: a11 :: a12 :: a13 :: a14 :: a15 :: a16 :: a17 :: some v :: r) H Q := ⟨v, rfl, h⟩
theorem n18 {a0 a1 a2 a3 a4 a5 a6 a7 a8 a9 a10 a11 a12 a13 a14 a15 a16 a17 : Option V} {Q : L2.St → Hp → Prop} (h : Q (a0 :: a1 :: a2 :: a3 :: a4 :: a5 :: a6 :: a7 :: a8 :: a9 :: a10 :: a11 :: a12 :: a13 :: a14 :: a15 :: a16 :: a17 :: some v :: r) H) : gName 18 v (a0 :: a1 :: a2 :: a3 :: a4 :: a5 :: a6 :: a7 :: a8 :: a9 :: a10 :: a11 :: a12 :: a13 :: a14 :: a15 :: a16 :: a17 :: a :: r) H Q := h
theorem g18 {a0 a1 a2 a3 a4 a5 a6 a7 a8 a9 a10 a11 a12 a13 a14 a15 a16 a17 : Option V} {ti : TIp} (h : te (a0 :: a1 :: a2 :: a3 :: a4 :: a5 :: a6 :: a7 :: a8 :: a9 :: a10 :: a11 :: a12 :: a13 :: a14 :: a15 :: a16 :: a17 :: some x :: r) H fun y H1 => ti x y H1 fun z H2 => D.nx (a0 :: a1 :: a2 :: a3 :: a4 :: a5 :: a6 :: a7 :: a8 :: a9 :: a10 :: a11 :: a12 :: a13 :: a14 :: a15 :: a16 :: a17 :: some z :: r) H2) : tAug 18 te ti D (a0 :: a1 :: a2 :: a3 :: a4 :: a5 :: a6 :: a7 :: a8 :: a9 :: a10 :: a11 :: a12 :: a13 :: a14 :: a15 :: a16 :: a17 :: some x :: r) H := ⟨x, rfl, h⟩
theorem v19 {a0 a1 a2 a3 a4 a5 a6 a7 a8 a9 a10 a11 a12 a13 a14 a15 a16 a17 a18 : Option V} (h : Q v H) : tVar 19 (a0 :: a1 :: a2 :: a3 :: a4 :: a5 :: a6 :: a7 :: a8 :: a9 :: a10 :: a11 :: a12 :: a13 :: a14 :: a15 :: a16 :: a17 :: a18 :: some v :: r) H Q := ⟨v, rfl, h⟩
theorem n19 {a0 a1 a2 a3 a4 a5 a6 a7 a8 a9 a10 a11 a12 a13 a14 a15 a16 a17 a18 : Option V} {Q : L2.St → Hp → Prop} (h : Q (a0 :: a1 :: a2 :: a3 :: a4 :: a5 :: a6 :: a7 :: a8 :: a9 :: a10 :: a11 :: a12 :: a13 :: a14 :: a15 :: a16 :: a17 :: a18 :: some v :: r) H) : gName 19 v (a0 :: a1 :: a2 :: a3 :: a4 :: a5 :: a6 :: a7 :: a8 :: a9 :: a10 :: a11 :: a12 :: a13 :: a14 :: a15 :: a16 :: a17 :: a18 :: a :: r) H Q := h
theorem g19 {a0 a1 a2 a3 a4 a5 a6 a7 a8 a9 a10 a11 a12 a13 a14 a15 a16 a17 a18 : Option V} {ti : TIp} (h : te (a0 :: a1 :: a2 :: a3 :: a4 :: a5 :: a6 :: a7 :: a8 :: a9 :: a10 :: a11 :: a12 :: a13 :: a14 :: a15 :: a16 :: a17 :: a18 :: some x :: r) H fun y H1 => ti x y H1 fun z H2 => D.nx (a0 :: a1 :: a2 :: a3 :: a4 :: a5 :: a6 :: a7 :: a8 :: a9 :: a10 :: a11 :: a12 :: a13 :: a14 :: a15 :: a16 :: a17 :: a18 :: some z :: r) H2) : tAug 19 te ti D (a0 :: a1 :: a2 :: a3 :: a4 :: a5 :: a6 :: a7 :: a8 :: a9 :: a10 :: a11 :: a12 :: a13 :: a14 :: a15 :: a16 :: a17 :: a18 :: some x :: r) H := ⟨x, rfl, h⟩
theorem v20 {a0 a1 a2 a3 a4 a5 a6 a7 a8 a9 a10 a11 a12 a13 a14 a15 a16 a17 a18 a19 : Option V} (h : Q v H) : tVar 20 (a0 :: a1 :: a2 :: a3 :: a4 :: a5 :: a6 :: a7 :: a8 :: a9 :: a10 :: a11 :: a12 :: a13 :: a14 :: a15 :: a16 :: a17 :: a18 :: a19 :: some v :: r) H Q := ⟨v, rfl, h⟩
theorem n20 {a0 a1 a2 a3 a4 a5 a6 a7 a8 a9 a10 a11 a12 a13 a14 a15 a16 a17 a18 a19 : Option V} {Q : L2.St → Hp → Prop} (h : Q (a0 :: a1 :: a2 :: a3 :: a4 :: a5 :: a6 :: a7 :: a8 :: a9 :: a10 :: a11 :: a12 :: a13 :: a14 :: a15 :: a16 :: a17 :: a18 :: a19 :: some v :: r) H) : gName 20 v (a0 :: a1 :: a2 :: a3 :: a4 :: a5 :: a6 :: a7 :: a8 :: a9 :: a10 :: a11 :: a12 :: a13 :: a14 :: a15 :: a16 :: a17 :: a18 :: a19 :: a :: r) H Q := h
theorem g20 {a0 a1 a2 a3 a4 a5 a6 a7 a8 a9 a10 a11 a12 a13 a14 a15 a16 a17 a18 a19 : Option V} {ti : TIp} (h : te (a0 :: a1 :: a2 :: a3 :: a4 :: a5 :: a6 :: a7 :: a8 :: a9 :: a10 :: a11 :: a12 :: a13 :: a14 :: a15 :: a16 :: a17 :: a18 :: a19 :: some x :: r) H fun y H1 => ti x y H1 fun z H2 => D.nx (a0 :: a1 :: a2 :: a3 :: a4 :: a5 :: a6 :: a7 :: a8 :: a9 :: a10 :: a11 :: a12 :: a13 :: a14 :: a15 :: a16 :: a17 :: a18 :: a19 :: some z :: r) H2) : tAug 20 te ti D (a0 :: a1 :: a2 :: a3 :: a4 :: a5 :: a6 :: a7 :: a8 :: a9 :: a10 :: a11 :: a12 :: a13 :: a14 :: a15 :: a16 :: a17 :: a18 :: a19 :: some x :: r) H := ⟨x, rfl, h⟩
theorem v21 {a0 a1 a2 a3 a4 a5 a6 a7 a8 a9 a10 a11 a12 a13 a14 a15 a16 a17 a18 a19 a20 : Option V} (h : Q v H) : tVar 21 (a0 :: a1 :: a2 :: a3 :: a4 :: a5 :: a6 :: a7 :: a8 :: a9 :: a10 :: a11 :: a12 :: a13 :: a14 :: a15 :: a16 :: a17 :: a18 :: a19 :: a20 :: some v :: r) H Q := ⟨v, rfl, h⟩
theorem n21 {a0 a1 a2 a3 a4 a5 a6 a7 a8 a9 a10 a11 a12 a13 a14 a15 a16 a17 a18 a19 a20 : Option V} {Q : L2.St → Hp → Prop} (h : Q (a0 :: a1 :: a2 :: a3 :: a4 :: a5 :: a6 :: a7 :: a8 :: a9 :: a10 :: a11 :: a12 :: a13 :: a14 :: a15 :: a16 :: a17 :: a18 :: a19 :: a20 :: some v :: r) H) : gName 21 v (a0 :: a1 :: a2 :: a3 :: a4 :: a5 :: a6 :: a7 :: a8 :: a9 :: a10 :: a11 :: a12 :: a13 :: a14 :: a15 :: a16 :: a17 :: a18 :: a19 :: a20 :: a :: r) H Q := h
theorem g21 {a0 a1 a2 a3 a4 a5 a6 a7 a8 a9 a10 a11 a12 a13 a14 a15 a16 a17 a18 a19 a20 : Option V} {ti : TIp} (h : te (a0 :: a1 :: a2 :: a3 :: a4 :: a5 :: a6 :: a7 :: a8 :: a9 :: a10 :: a11 :: a12 :: a13 :: a14 :: a15 :: a16 :: a17 :: a18 :: a19 :: a20 :: some x :: r) H fun y H1 => ti x y H1 fun z H2 => D.nx (a0 :: a1 :: a2 :: a3 :: a4 :: a5 :: a6 :: a7 :: a8 :: a9 :: a10 :: a11 :: a12 :: a13 :: a14 :: a15 :: a16 :: a17 :: a18 :: a19 :: a20 :: some z :: r) H2) : tAug 21 te ti D (a0 :: a1 :: a2 :: a3 :: a4 :: a5 :: a6 :: a7 :: a8 :: a9 :: a10 :: a11 :: a12 :: a13 :: a14 :: a15 :: a16 :: a17 :: a18 :: a19 :: a20 :: some x :: r) H := ⟨x, rfl, h⟩
theorem v22 {a0 a1 a2 a3 a4 a5 a6 a7 a8 a9 a10 a11 a12 a13 a14 a15 a16 a17 a18 a19 a20 a21 : Option V} (h : Q v H) : tVar 22 (a0 :: a1 :: a2 :: a3 :: a4 :: a5 :: a6 :: a7 :: a8 :: a9 :: a10 :: a11 :: a12 :: a13 :: a14 :: a15 :: a16 :: a17 :: a18 :: a19 :: a20 :: a21 :: some v :: r) H Q := ⟨v, rfl, h⟩
theorem n22 {a0 a1 a2 a3 a4 a5 a6 a7 a8 a9 a10 a11 a12 a13 a14 a15 a16 a17 a18 a19 a20 a21 : Option V} {Q : L2.St → Hp → Prop} (h : Q (a0 :: a1 :: a2 :: a3 :: a4 :: a5 :: a6 :: a7 :: a8 :: a9 :: a10 :: a11 :: a12 :: a13 :: a14 :: a15 :: a16 :: a17 :: a18 :: a19 :: a20 :: a21 :: some v :: r) H) : gName 22 v (a0 :: a1 :: a2 :: a3 :: a4 :: a5 :: a6 :: a7 :: a8 :: a9 :: a10 :: a11 :: a12 :: a13 :: a14 :: a15 :: a16 :: a17 :: a18 :: a19 :: a20 :: a21 :: a :: r) H Q := h
theorem g22 {a0 a1 a2 a3 a4 a5 a6 a7 a8 a9 a10 a11 a12 a13 a14 a15 a16 a17 a18 a19 a20 a21 : Option V} {ti : TIp} (h : te (a0 :: a1 :: a2 :: a3 :: a4 :: a5 :: a6 :: a7 :: a8 :: a9 :: a10 :: a11 :: a12 :: a13 :: a14 :: a15 :: a16 :: a17 :: a18 :: a19 :: a20 :: a21 :: some x :: r) H fun y H1 => ti x y H1 fun z H2 => D.nx (a0 :: a1 :: a2 :: a3 :: a4 :: a5 :: a6 :: a7 :: a8 :: a9 :: a10 :: a11 :: a12 :: a13 :: a14 :: a15 :: a16 :: a17 :: a18 :: a19 :: a20 :: a21 :: some z :: r) H2) : tAug 22 te ti D (a0 :: a1 :: a2 :: a3 :: a4 :: a5 :: a6 :: a7 :: a8 :: a9 :: a10 :: a11 :: a12 :: a13 :: a14 :: a15 :: a16 :: a17 :: a18 :: a19 :: a20 :: a21 :: some x :: r) H := ⟨x, rfl, h⟩
theorem v23 {a0 a1 a2 a3 a4 a5 a6 a7 a8 a9 a10 a11 a12 a13 a14 a15 a16 a17 a18 a19 a20 a21 a22 : Option V} (h : Q v H) : tVar 23 (a0 :: a1 :: a2 :: a3 :: a4 :: a5 :: a6 :: a7 :: a8 :: a9 :: a10 :: a11 :: a12 :: a13 :: a14 :: a15 :: a16 :: a17 :: a18 :: a19 :: a20 :: a21 :: a22 :: some v :: r) H Q := ⟨v, rfl, h⟩
theorem n23 {a0 a1 a2 a3 a4 a5 a6 a7 a8 a9 a10 a11 a12 a13 a14 a15 a16 a17 a18 a19 a20 a21 a22 : Option V} {Q : L2.St → Hp → Prop} (h : Q (a0 :: a1 :: a2 :: a3 :: a4 :: a5 :: a6 :: a7 :: a8 :: a9 :: a10 :: a11 :: a12 :: a13 :: a14 :: a15 :: a16 :: a17 :: a18 :: a19 :: a20 :: a21 :: a22 :: some v :: r) H) : gName 23 v (a0 :: a1 :: a2 :: a3 :: a4 :: a5 :: a6 :: a7 :: a8 :: a9 :: a10 :: a11 :: a12 :: a13 :: a14 :: a15 :: a16 :: a17 :: a18 :: a19 :: a20 :: a21 :: a22 :: a :: r) H Q := h
theorem g23 {a0 a1 a2 a3 a4 a5 a6 a7 a8 a9 a10 a11 a12 a13 a14 a15 a16 a17 a18 a19 a20 a21 a22 : Option V} {ti : TIp} (h : te (a0 :: a1 :: a2 :: a3 :: a4 :: a5 :: a6 :: a7 :: a8 :: a9 :: a10 :: a11 :: a12 :: a13 :: a14 :: a15 :: a16 :: a17 :: a18 :: a19 :: a20 :: a21 :: a22 :: some x :: r) H fun y H1 => ti x y H1 fun z H2 => D.nx (a0 :: a1 :: a2 :: a3 :: a4 :: a5 :: a6 :: a7 :: a8 :: a9 :: a10 :: a11 :: a12 :: a13 :: a14 :: a15 :: a16 :: a17 :: a18 :: a19 :: a20 :: a21 :: a22 :: some z :: r) H2) : tAug 23 te ti D (a0 :: a1 :: a2 :: a3 :: a4 :: a5 :: a6 :: a7 :: a8 :: a9 :: a10 :: a11 :: a12 :: a13 :: a14 :: a15 :: a16 :: a17 :: a18 :: a19 :: a20 :: a21 :: a22 :: some x :: r) H := ⟨x, rfl, h⟩
theorem v24 {a0 a1 a2 a3 a4 a5 a6 a7 a8 a9 a10 a11 a12 a13 a14 a15 a16 a17 a18 a19 a20 a21 a22 a23 : Option V} (h : Q v H) : tVar 24 (a0 :: a1 :: a2 :: a3 :: a4 :: a5 :: a6 :: a7 :: a8 :: a9 :: a10 :: a11 :: a12 :: a13 :: a14 :: a15 :: a16 :: a17 :: a18 :: a19 :: a20 :: a21 :: a22 :: a23 :: some v :: r) H Q := ⟨v, rfl, h⟩
theorem n24 {a0 a1 a2 a3 a4 a5 a6 a7 a8 a9 a10 a11 a12 a13 a14 a15 a16 a17 a18 a19 a20 a21 a22 a23 : Option V} {Q : L2.St → Hp → Prop} (h : Q (a0 :: a1 :: a2 :: a3 :: a4 :: a5 :: a6 :: a7 :: a8 :: a9 :: a10 :: a11 :: a12 :: a13 :: a14 :: a15 :: a16 :: a17 :: a18 :: a19 :: a20 :: a21 :: a22 :: a23 :: some v :: r) H) : gName 24 v (a0 :: a1 :: a2 :: a3 :: a4 :: a5 :: a6 :: a7 :: a8 :: a9 :: a10 :: a11 :: a12 :: a13 :: a14 :: a15 :: a16 :: a17 :: a18 :: a19 :: a20 :: a21 :: a22 :: a23 :: a :: r) H Q := h
theorem g24 {a0 a1 a2 a3 a4 a5 a6 a7 a8 a9 a10 a11 a12 a13 a14 a15 a16 a17 a18 a19 a20 a21 a22 a23 : Option V} {ti : TIp} (h : te (a0 :: a1 :: a2 :: a3 :: a4 :: a5 :: a6 :: a7 :: a8 :: a9 :: a10 :: a11 :: a12 :: a13 :: a14 :: a15 :: a16 :: a17 :: a18 :: a19 :: a20 :: a21 :: a22 :: a23 :: some x :: r) H fun y H1 => ti x y H1 fun z H2 => D.nx (a0 :: a1 :: a2 :: a3 :: a4 :: a5 :: a6 :: a7 :: a8 :: a9 :: a10 :: a11 :: a12 :: a13 :: a14 :: a15 :: a16 :: a17 :: a18 :: a19 :: a20 :: a21 :: a22 :: a23 :: some z :: r) H2) : tAug 24 te ti D (a0 :: a1 :: a2 :: a3 :: a4 :: a5 :: a6 :: a7 :: a8 :: a9 :: a10 :: a11 :: a12 :: a13 :: a14 :: a15 :: a16 :: a17 :: a18 :: a19 :: a20 :: a21 :: a22 :: a23 :: some x :: r) H := ⟨x, rfl, h⟩
theorem v25 {a0 a1 a2 a3 a4 a5 a6 a7 a8 a9 a10 a11 a12 a13 a14 a15 a16 a17 a18 a19 a20 a21 a22 a23 a24 : Option V} (h : Q v H) : tVar 25 (a0 :: a1 :: a2 :: a3 :: a4 :: a5 :: a6 :: a7 :: a8 :: a9 :: a10 :: a11 :: a12 :: a13 :: a14 :: a15 :: a16 :: a17 :: a18 :: a19 :: a20 :: a21 :: a22 :: a23 :: a24 :: some v :: r) H Q := ⟨v, rfl, h⟩
theorem n25 {a0 a1 a2 a3 a4 a5 a6 a7 a8 a9 a10 a11 a12 a13 a14 a15 a16 a17 a18 a19 a20 a21 a22 a23 a24 : Option V} {Q : L2.St → Hp → Prop} (h : Q (a0 :: a1 :: a2 :: a3 :: a4 :: a5 :: a6 :: a7 :: a8 :: a9 :: a10 :: a11 :: a12 :: a13 :: a14 :: a15 :: a16 :: a17 :: a18 :: a19 :: a20 :: a21 :: a22 :: a23 :: a24 :: some v :: r) H) : gName 25 v (a0 :: a1 :: a2 :: a3 :: a4 :: a5 :: a6 :: a7 :: a8 :: a9 :: a10 :: a11 :: a12 :: a13 :: a14 :: a15 :: a16 :: a17 :: a18 :: a19 :: a20 :: a21 :: a22 :: a23 :: a24 :: a :: r) H Q := h
theorem g25 {a0 a1 a2 a3 a4 a5 a6 a7 a8 a9 a10 a11 a12 a13 a14 a15 a16 a17 a18 a19 a20 a21 a22 a23 a24 : Option V} {ti : TIp} (h : te (a0 :: a1 :: a2 :: a3 :: a4 :: a5 :: a6 :: a7 :: a8 :: a9 :: a10 :: a11 :: a12 :: a13 :: a14 :: a15 :: a16 :: a17 :: a18 :: a19 :: a20 :: a21 :: a22 :: a23 :: a24 :: some x :: r) H fun y H1 => ti x y H1 fun z H2 => D.nx (a0 :: a1 :: a2 :: a3 :: a4 :: a5 :: a6 :: a7 :: a8 :: a9 :: a10 :: a11 :: a12 :: a13 :: a14 :: a15 :: a16 :: a17 :: a18 :: a19 :: a20 :: a21 :: a22 :: a23 :: a24 :: some z :: r) H2) : tAug 25 te ti D (a0 :: a1 :: a2 :: a3 :: a4 :: a5 :: a6 :: a7 :: a8 :: a9 :: a10 :: a11 :: a12 :: a13 :: a14 :: a15 :: a16 :: a17 :: a18 :: a19 :: a20 :: a21 :: a22 :: a23 :: a24 :: some x :: r) H := ⟨x, rfl, h⟩
theorem v26 {a0 a1 a2 a3 a4 a5 a6 a7 a8 a9 a10 a11 a12 a13 a14 a15 a16 a17 a18 a19 a20 a21 a22 a23 a24 a25 : Option V} (h : Q v H) : tVar 26 (a0 :: a1 :: a2 :: a3 :: a4 :: a5 :: a6 :: a7 :: a8 :: a9 :: a10 :: a11 :: a12 :: a13 :: a14 :: a15 :: a16 :: a17 :: a18 :: a19 :: a20 :: a21 :: a22 :: a23 :: a24 :: a25 :: some v :: r) H Q := ⟨v, rfl, h⟩
theorem n26 {a0 a1 a2 a3 a4 a5 a6 a7 a8 a9 a10 a11 a12 a13 a14 a15 a16 a17 a18 a19 a20 a21 a22 a23 a24 a25 : Option V} {Q : L2.St → Hp → Prop} (h : Q (a0 :: a1 :: a2 :: a3 :: a4 :: a5 :: a6 :: a7 :: a8 :: a9 :: a10 :: a11 :: a12 :: a13 :: a14 :: a15 :: a16 :: a17 :: a18 :: a19 :: a20 :: a21 :: a22 :: a23 :: a24 :: a25 :: some v :: r) H) : gName 26 v (a0 :: a1 :: a2 :: a3 :: a4 :: a5 :: a6 :: a7 :: a8 :: a9 :: a10 :: a11 :: a12 :: a13 :: a14 :: a15 :: a16 :: a17 :: a18 :: a19 :: a20 :: a21 :: a22 :: a23 :: a24 :: a25 :: a :: r) H Q := h
theorem g26 {a0 a1 a2 a3 a4 a5 a6 a7 a8 a9 a10 a11 a12 a13 a14 a15 a16 a17 a18 a19 a20 a21 a22 a23 a24 a25 : Option V} {ti : TIp} (h : te (a0 :: a1 :: a2 :: a3 :: a4 :: a5 :: a6 :: a7 :: a8 :: a9 :: a10 :: a11 :: a12 :: a13 :: a14 :: a15 :: a16 :: a17 :: a18 :: a19 :: a20 :: a21 :: a22 :: a23 :: a24 :: a25 :: some x :: r) H fun y H1 => ti x y H1 fun z H2 => D.nx (a0 :: a1 :: a2 :: a3 :: a4 :: a5 :: a6 :: a7 :: a8 :: a9 :: a10 :: a11 :: a12 :: a13 :: a14 :: a15 :: a16 :: a17 :: a18 :: a19 :: a20 :: a21 :: a22 :: a23 :: a24 :: a25 :: some z :: r) H2) : tAug 26 te ti D (a0 :: a1 :: a2 :: a3 :: a4 :: a5 :: a6 :: a7 :: a8 :: a9 :: a10 :: a11 :: a12 :: a13 :: a14 :: a15 :: a16 :: a17 :: a18 :: a19 :: a20 :: a21 :: a22 :: a23 :: a24 :: a25 :: some x :: r) H := ⟨x, rfl, h⟩
theorem v27 {a0 a1 a2 a3 a4 a5 a6 a7 a8 a9 a10 a11 a12 a13 a14 a15 a16 a17 a18 a19 a20 a21 a22 a23 a24 a25 a26 : Option V} (h : Q v H) : tVar 27 (a0 :: a1 :: a2 :: a3 :: a4 :: a5 :: a6 :: a7 :: a8 :: a9 :: a10 :: a11 :: a12 :: a13 :: a14 :: a15 :: a16 :: a17 :: a18 :: a19 :: a20 :: a21 :: a22 :: a23 :: a24 :: a25 :: a26 :: some v :: r) H Q := ⟨v, rfl, h⟩
theorem n27 {a0 a1 a2 a3 a4 a5 a6 a7 a8 a9 a10 a11 a12 a13 a14 a15 a16 a17 a18 a19 a20 a21 a22 a23 a24 a25 a26 : Option V} {Q : L2.St → Hp → Prop} (h : Q (a0 :: a1 :: a2 :: a3 :: a4 :: a5 :: a6 :: a7 :: a8 :: a9 :: a10 :: a11 :: a12 :: a13 :: a14 :: a15 :: a16 :: a17 :: a18 :: a19 :: a20 :: a21 :: a22 :: a23 :: a24 :: a25 :: a26 :: some v :: r) H) : gName 27 v (a0 :: a1 :: a2 :: a3 :: a4 :: a5 :: a6 :: a7 :: a8 :: a9 :: a10 :: a11 :: a12 :: a13 :: a14 :: a15 :: a16 :: a17 :: a18 :: a19 :: a20 :: a21 :: a22 :: a23 :: a24 :: a25 :: a26 :: a :: r) H Q := h
theorem g27 {a0 a1 a2 a3 a4 a5 a6 a7 a8 a9 a10 a11 a12 a13 a14 a15 a16 a17 a18 a19 a20 a21 a22 a23 a24 a25 a26 : Option V} {ti : TIp} (h : te (a0 :: a1 :: a2 :: a3 :: a4 :: a5 :: a6 :: a7 :: a8 :: a9 :: a10 :: a11 :: a12 :: a13 :: a14 :: a15 :: a16 :: a17 :: a18 :: a19 :: a20 :: a21 :: a22 :: a23 :: a24 :: a25 :: a26 :: some x :: r) H fun y H1 => ti x y H1 fun z H2 => D.nx (a0 :: a1 :: a2 :: a3 :: a4 :: a5 :: a6 :: a7 :: a8 :: a9 :: a10 :: a11 :: a12 :: a13 :: a14 :: a15 :: a16 :: a17 :: a18 :: a19 :: a20 :: a21 :: a22 :: a23 :: a24 :: a25 :: a26 :: some z :: r) H2) : tAug 27 te ti D (a0 :: a1 :: a2 :: a3 :: a4 :: a5 :: a6 :: a7 :: a8 :: a9 :: a10 :: a11 :: a12 :: a13 :: a14 :: a15 :: a16 :: a17 :: a18 :: a19 :: a20 :: a21 :: a22 :: a23 :: a24 :: a25 :: a26 :: some x :: r) H := ⟨x, rfl, h⟩
end Rd

set_option Elab.async false
set_option linter.all false
set_option maxRecDepth 100000
namespace Rd
open PySem PySem.Spec PyProof.Rows L2
variable {K : PySem.W.Frag} {σ : L2.St} {H : Hp} {D : Ends} {Q : VK} {ta tb te tv : TE} {x y v : V} {tr : TA} {f m : Str} {C : Addr} {sp : Sp} {dvs : List V} {E : XK}
/-! ### objects of own classes -/
def FldG (K : PySem.W.Frag) (x : V) (f : Str) (Q : VK) (H : Hp) : Prop := ∃ a C dx fs v, x = .ref a ∧ H a = some (.ins C dx fs) ∧ Cls K C ∧ NoAttr K C f ∧ fs.lookup f = some v ∧ Q v H
theorem fld (h : te σ H fun x H1 => FldG K x f Q H1) : tFld K te f σ H Q := h
theorem fldI {a dx : Addr} {fs : List (Str × V)} (h : H a = some (.ins C dx fs)) (c : Cls K C) (n : NoAttr K C f) (e : fs.lookup f = some v) (q : Q v H) : FldG K (.ref a) f Q H := ⟨a, C, dx, fs, v, rfl, h, c, n, e, q⟩
def SfG (K : PySem.W.Frag) (x : V) (f : Str) (y : V) (D : Ends) (σ : L2.St) (H : Hp) : Prop := ∃ a C dx fs, x = .ref a ∧ H a = some (.ins C dx fs) ∧ Cls K C ∧ NoAttr K C f ∧ fs.length < 1000 ∧ D.nx σ (upd H a (.ins C dx (putF f y fs)))
theorem sfld (h : tv σ H fun y H1 => ta σ H1 fun x H2 => SfG K x f y D σ H2) : sFld K ta tv f D σ H := h
theorem sfldI {a dx : Addr} {fs : List (Str × V)} (h : H a = some (.ins C dx fs)) (c : Cls K C) (n : NoAttr K C f) (l : fs.length < 1000) (q : D.nx σ (upd H a (.ins C dx (putF f y fs)))) : SfG K (.ref a) f y D σ H := ⟨a, C, dx, fs, rfl, h, c, n, l, q⟩
def MtG (C : Addr) (m : Str) (sp : Sp) (dvs : List V) (E : XK) (t : TA) (σ : L2.St) (Q : VK) (x : V) (H : Hp) : Prop := ∃ a dx fs, x = .ref a ∧ H a = some (.ins C dx fs) ∧ fs.lookup m = none ∧ t σ H fun vs H2 => sp (x :: (vs ++ dvs)) H2 Q E
theorem meth (h : ta σ H fun x H1 => MtG C m sp dvs E tr σ Q x H1) : tMeth C m sp dvs E ta tr σ H Q := h
theorem methI {a dx : Addr} {fs : List (Str × V)} (h : H a = some (.ins C dx fs)) (n : fs.lookup m = none) (q : tr σ H fun vs H2 => sp (.ref a :: (vs ++ dvs)) H2 Q E) : MtG C m sp dvs E tr σ Q (.ref a) H := ⟨a, dx, fs, rfl, h, n, q⟩
def MkG (C : Addr) (sp : Sp) (dvs : List V) (E : XK) (Q : VK) (vs : List V) (H1 : Hp) : Prop := ∀ x dx, H1 x = none → H1 dx = none → dx ≠ x → sp (.ref x :: (vs ++ dvs)) (upd (upd H1 dx (.own x)) x (.ins C dx [])) (fun v H2 => v = .non ∧ Q (.ref x) H2) E
theorem make (h : tr σ H fun vs H1 => MkG C sp dvs E Q vs H1) : tMake C sp dvs E tr σ H Q := h
theorem popI {l : Addr} {xs : List V} (h : H l = some (.lst xs)) (e : xs[xs.length - 1]? = some y) (q : Q y (upd H l (.lst xs.dropLast))) : rPop (.ref l) [] H Q := ⟨l, xs, y, rfl, rfl, h, e, q⟩
theorem maxL {a : Addr} {ns : List Int} (h : H a = some (.lst (ns.map V.int))) (l : 0 < ns.length) (q : ∀ m, m ∈ ns → (∀ y, y ∈ ns → y ≤ m) → Q (.int m) H) : rMax K [.ref a] H Q := ⟨a, ns, rfl, SqL.of h, l, q⟩
theorem anyL {a : Addr} {bs : List Bool} (h : H a = some (.lst (bs.map V.bl))) (q : Q (.bl (bs.any id)) H) : rAny K [.ref a] H Q := ⟨a, bs, rfl, SqL.of h, q⟩
theorem sumL {a : Addr} {ns : List Int} (h : H a = some (.lst (ns.map V.int))) (q : Q (.int ns.sum) H) : rSum K [.ref a] H Q := ⟨a, ns, rfl, SqL.of h, q⟩
variable {R : It → Hp → Prop}
theorem izip (h : tr σ H fun vs H1 => ∃ a b xs ys, vs = [.ref a, .ref b] ∧ ((SqL K H1 a xs ∧ SqL K H1 b ys ∧ R (Itz K a b) H1) ∨ (SqT K H1 a xs ∧ SqT K H1 b ys ∧ R (RZ.ItzT K a b) H1))) : RZ.iZipA K tr σ H R := h
theorem izI {a b : Addr} {xs ys : List V} {A : Addr → Addr → Prop} {B : Addr → Addr → Prop} (h1 : H a = some (.lst xs)) (h2 : H b = some (.lst ys)) (q : A a b) : ∃ a' b' xs ys, [V.ref a, .ref b] = [.ref a', .ref b'] ∧ ((SqL K H a' xs ∧ SqL K H b' ys ∧ A a' b') ∨ (SqT K H a' xs ∧ SqT K H b' ys ∧ B a' b')) := ⟨a, b, xs, ys, rfl, .inl ⟨SqL.of h1, SqL.of h2, q⟩⟩
end Rd

set_option Elab.async false
set_option linter.all false
set_option maxRecDepth 100000
namespace L2
open PySem PySem.Spec PyProof.Rows
/-! an own object, and a method, whose def may raise, within a try's body -/
section
variable {X : Cx} {CX : CXT} {lv : Nat} {fa cA : Addr} {fd : FuncData} {pn : List Str} {sp : Sp} {nm mm : Str} {p1 p2 p3 : Pos} {e1 oe : Expr} {er : List Expr} {to' : TE} {tr : TA}
theorem mkS_run {EE : XK} {pins : List (Addr × Obj)} {σ : St} {H : Hp} {s : Shared} {Q : VK} {us : List Value} {vs : List V}
    (M : Mk X.K cA fa) (F : FnOk X.prog X.w X.K X.mg X.base CX lv fa fd pn sp) (rm : Room (lv + 1) X.A)
    (bi : Binds X.K fd pn []) (out : PassesAt CX X σ EE) (I : Inv X pins σ H s) (r : Vals vs us)
    (h : ∀ x dx, H x = none → H dx = none → dx ≠ x →
      sp (.ref x :: vs) (upd (upd H dx (.own x)) x (.ins cA dx [])) (fun v H2 => v = .non ∧ Q (.ref x) H2) EE) :
    wpAny (model X.prog X.w) X.A (call (.ref cA) us) (EP X pins σ Q) X.xe s := by
  have J := Inv.made (C := cA) I
  obtain ⟨n, en⟩ : ∃ n, n = s.heap.objs.size := ⟨_, rfl⟩
  have q0 := h _ _ (I.hok.fresh (Nat.le_succ _)) (I.hok.fresh (Nat.le_refl _)) (Nat.ne_of_lt (Nat.lt_succ_self _))
  have rr : Vals (V.ref (s.heap.objs.size + 1) :: vs) (Value.ref (s.heap.objs.size + 1) :: us) := .cons rfl r
  have ln : (Value.ref (s.heap.objs.size + 1) :: us).length = pn.length :=
    rr.length.symm.trans (F.len _ _ _ _ q0)
  have bb := bi _ (Value.ref (s.heap.objs.size + 1) :: us) J.kIn (by rw [List.append_nil]; exact ln)
  rw [List.append_nil] at bb
  have run := F.run _ X.stack _ _ ⟨Value.ref (s.heap.objs.size + 1) :: us, []⟩ _ _ _ EE
    (rm.make cA us []) (J.env0.make cA us []) bb rr q0
  refine wpAny_call (make_map (f := fa) I.kIn M.makes M.init (beq_iff_eq.mp M.fn) (codeAny_mono run fun res s' got => ?_))
  match res, got with
  | .error e, got => exact out pins _ _ e s' J got
  | .ok (.ret u), got =>
    obtain ⟨v, H', J3, rv, ev, q3⟩ := J.after got
    rw [ev] at rv
    exact ⟨rv, V.ref (s.heap.objs.size + 1), H', J3, rfl, q3⟩
  | .ok .next, got => cases got
  | .ok .brk, got => cases got
  | .ok .cont, got => cases got
def tMakeS (C : Addr) (sp : Sp) (E : St → XK) (t : TA) : TE := fun σ H Q => t σ H fun vs H1 => ∀ x dx, H1 x = none → H1 dx = none → dx ≠ x →
  sp (.ref x :: vs) (upd (upd H1 dx (.own x)) x (.ins C dx [])) (fun v H2 => v = .non ∧ Q (.ref x) H2) (E σ)
theorem pe_makeS {EE : St → XK} (M : Mk X.K cA fa) (F : FnOk X.prog X.w X.K X.mg X.base CX lv fa fd pn sp)
    (rm : Room (lv + 1) X.A) (hg : Gl X nm) (hm : X.mg nm = some (.ref cA)) (bi : Binds X.K fd pn [])
    (out : ∀ σ, PassesAt CX X σ (EE σ)) (ha : PA X (e1 :: er) tr) (nd : (nm == ("__debug__" : Str)) = false := by decide)
    (t1 : starEach (e1 :: er) X.env = (false, eval e1 X.env) :: starEach er X.env := by rfl)
    (t2 : (backTo p2 (starEach er X.env)).any (·.1) = false := by rfl) :
    PE X (.Call (.Name nm p1) (e1 :: er) [] p2) (tMakeS cA sp EE tr) := by
  constructor
  intro pins s σ H Q I h
  refine wpAny_Call_Name_kw (ld_glob I hg hm (PySem.W.callWith_K (h₀ := X.base) I.ok.mod.kin M.kp ?_ t1 t2) nd)
  exact thn (ha.run p2 pins s σ H _ I h) fun us s1 ⟨vs, H1, I1, r, q⟩ => ⟨I1.kIn, mkS_run M F rm bi (out σ) I1 r q⟩
def tMethX (C : Addr) (m : Str) (sp : Sp) (E : St → XK) (ta : TE) (t : TA) : TE := fun σ H Q => ta σ H fun x H1 => ∃ a dx fs, x = .ref a ∧ H1 a = some (.ins C dx fs) ∧ fs.lookup m = none ∧
  t σ H1 fun vs H2 => sp (x :: vs) H2 Q (E σ)
theorem pe_methX {EE : St → XK} {pl : Sem Bool} (ho : PE X oe to') (c : Cls X.K cA) (hm : Meth X.K cA mm fa)
    (F : FnOk X.prog X.w X.K X.mg X.base CX lv fa fd pn sp) (rm : Room lv X.A) (bi : Binds X.K fd pn [])
    (out : ∀ σ, PassesAt CX X σ (EE σ)) (ha : PA X (e1 :: er) tr)
    (t1 : starEach (e1 :: er) X.env = (false, eval e1 X.env) :: starEach er X.env := by rfl)
    (t2 : (backTo p2 (starEach er X.env)).any (·.1) = false := by rfl)
    (ev : eval (.Call (.Attribute oe mm p3) (e1 :: er) [] p2) X.env = (do
      let ov ← eval oe X.env
      standAt p3.atName
      let (f, first) ← holding [ov] (getMethod ov mm pl)
      callWith p2 f first (backTo p2 (starEach (e1 :: er) X.env)) (backToKw p2 (keywordEach [] X.env))) := by rfl) :
    PE X (.Call (.Attribute oe mm p3) (e1 :: er) [] p2) (tMethX cA mm sp EE to' tr) := by
  constructor
  intro pins s σ H Q I h
  refine PySem.W.methodCall_KW (pl := pl) (thn (ho.run pins s σ H _ I h) fun u s1 got => ?_) ev
  obtain ⟨x, H1, I1, rx, a, dx, fs, rfl, ea, l, q⟩ := got
  cases (show u = Value.ref a from rx)
  refine getmeth_ok I1 ea c hm l (PySem.W.callWith_K (first := [.ref a]) (h₀ := X.base) I.ok.mod.kin hm.kp ?_ t1 t2)
  exact thn (ha.run p2 pins s1 σ H1 _ I1 q) fun us s2 ⟨vs, H2, I2, r, q2⟩ => ⟨I2.kIn, run_fnS (us := .ref a :: us) (vs := .ref a :: vs) F rm bi (out σ) I2 (.cons rfl r) q2⟩
end
end L2

set_option Elab.async false
set_option linter.all false
set_option maxRecDepth 100000
namespace L2
open PySem PySem.Spec PySem.Calls PyProof.Rows
/-! an own object without a == of its own, against an integer -/
theorem int_eq_declines_ins (b : Int) (u : Tok) (a C dx : Addr) :
    Meets (Builtin.«int.__eq__» ⟨[.int b u, .ref a], []⟩) (fun _ R s => s.heap.get? a = some (PySem.W.instObj C dx) ∧ R (.ok (.ret .notImplemented)) s) :=
  .of_wp fun prog w A R s h => by
    obtain ⟨hp, g, d, tk, os⟩ := s
    obtain ⟨hl, h⟩ := h
    unfold PySem.W.instObj at hl
    wp_walk using wpAny_loadPart' hl, wpAny_load hl
    exact ⟨_, rfl, h⟩
section
variable {prog : Program} {w : World} {A : Around} {E : Value → Shared → Prop} {s : Shared} {K : PySem.W.Frag} {x C dx : Addr} {od : Option Obj}
theorem ifBound_B {name : Str} {id : String} {args : List Value} {Q : Option Value → Shared → Prop} (X : K.In s.heap) (I : PySem.W.InstAt s.heap x (PySem.W.instObj C dx) C od)
    (hs : PySem.W.findIn K (.ref C) name = some (some (.builtin id))) (hb : ∀ self, bindSpecial (.builtin id) self = pure (.builtin id, [self]))
    (h : wpAny (model prog w) A (call (.builtin id) (.ref x :: args)) (fun v => Q (some v)) E s) : wpAny (model prog w) A (callSpecialIfBound? (.ref x) name args) Q E s := by
  simp only [callSpecialIfBound?, bindSpecialIfBound?]
  refine wpAny_holding (wpAny_bind (wpAny_bind (wpAny_bind (I.type.here ((PySem.W.looks_findIn X hs).here ?_)))))
  simp only [hb]
  refine wpAny_bind (wpAny_askSetting (wpAny_ite ?_))
  have fin : wpAny (model prog w) A (call (.builtin id) ([.ref x] ++ args) >>= fun v => pure (some v)) Q E s := wpAny_bind (wpAny_mono h (fun v s' h' => wpAny_pure h') fun _ _ h' => h')
  split
  · exact wpAny_bind (wpAny_pure (by exact wpAny_pure fin))
  · exact wpAny_tryCatch (wpAny_bind (wpAny_pure (by exact wpAny_pure fin)))
theorem call_objEq_int {n : Int} {t : Tok} {Q : Value → Shared → Prop} (X : K.In s.heap) (I : PySem.W.InstAt s.heap x (PySem.W.instObj C dx) C od)
    (ho : PySem.W.mroIn K C (.type "object") = some true) (hq : Q .notImplemented s) :
    wpAny (model prog w) A (call (.builtin "object.__eq__") [.ref x, .int n t]) Q E s := by
  refine wpAny_call (codeAny_call_builtin F.cmp_object.eq.plain F.cmpEntry_eq ?_)
  simp only [checkBuiltinCall, F.cmpKind_eq, F.cmpSplit_eq]
  refine wpAny_bind ?_
  unfold isInstance
  refine wpAny_bind (I.type.here ((PySem.W.looks_subIn (t := .ref C) X ho).here ?_))
  have body : wpAny (model prog w) A.in1 (Builtin.«object.__eq__» ⟨[.ref x, .int n t], []⟩) (fun fin s' => fin = .done (.ret .notImplemented) ∧ s' = s) E s := by
    unfold Builtin.«object.__eq__»
    have q : isSame (.ref x) (.int n t) = pure false := rfl
    repeat (first | rw [q] | wp_step)
    exact ⟨rfl, rfl⟩
  have fin : wpAny (model prog w) A.in1 (Builtin.«object.__eq__» ⟨[.ref x, .int n t], []⟩) (fun fin s' => match fin with
      | .done f => (match (Except.ok f : Result) with | .ok (.ret v) => Q v s' | .ok _ => False | .error e => E e s')
      | .again c' => c'.quiet = true ∧ codeAny (model prog w) A c' (fun r s' => match r with | .ok (.ret v) => Q v s' | .ok _ => False | .error e => E e s') s') (fun e s' => E e s') s :=
    wpAny_mono body (fun f s' h => by obtain ⟨rfl, rfl⟩ := h; exact hq) (fun _ _ e => e)
  cases hsig : Manifest.signature? "object.__eq__" with
  | none => exact wpAny_pure fin
  | some sig =>
    have ha := F.cmpArgs_eq (.ref x) (.int n t)
    simp only [argsOk, hsig] at ha
    have h2 : Bind.checkArgs "object.__eq__" sig ⟨[.ref x, .int n t], []⟩ = pure () := ha
    show wpAny (model prog w) A.in1 (Bind.checkArgs "object.__eq__" sig ⟨[.ref x, .int n t], []⟩) _ _ s
    rw [h2]
    exact wpAny_pure fin
theorem richCompare_inst_int {n : Int} {t : Tok} {Q : Value → Shared → Prop} (hu : A.units < cLine) (X : K.In s.heap) (I : PySem.W.InstAt s.heap x (PySem.W.instObj C dx) C od)
    (hs : PySem.W.findIn K (.ref C) "__eq__" = some (some (.builtin "object.__eq__"))) (ho : PySem.W.mroIn K C (.type "object") = some true)
    (hn : PySem.W.subIn K (.type "int") (.ref C) = some false) (hq : Q (.bool false) s) : wpAny (model prog w) A (richCompare .Eq (.ref x) (.int n t)) Q E s := by
  unfold richCompare
  simp only [oneThing_ref]
  refine wpAny_holding (wpAny_bind (wpAny_cRoomFor hu ?_))
  refine wpAny_bind (I.type.here (wpAny_bind (wpAny_typeOf (typeIs_int s n t) ?_)))
  have e1 : (Value.ref C != Value.type "int") = true := by rfl
  simp only [e1, if_true]
  refine wpAny_bind ((PySem.W.looks_subIn X hn).here ?_)
  simp only [Bool.false_eq_true, if_false, Bool.not_false, if_true]
  refine wpAny_bind (m := tryCompare (.ref x) _ (.int n t)) ?_
  unfold tryCompare
  refine wpAny_bind (ifBound_B X I hs F.cmp_object.eq.bind (call_objEq_int X I ho ?_))
  refine wpAny_pure ?_
  refine wpAny_bind (m := tryCompare (.int n t) _ (.ref x)) (wpAny_tryCompare_declines (typeIs_int s n t) F.slot_int_eq_refl (call_meets F.slot_int_eq_refl (typeIs_int s n t) F.entry_int_eq (F.args_int_eq_2 _ _) (int_eq_declines_ins n t x C dx) ⟨I.at_, rfl, ?_⟩))
  exact wpAny_bind (wpAny_rule (wpAny_bind (wpAny_of_eq (rfl : isSame (.ref x) (.int n t) = pure false) (wpAny_pure hq))))
end
structure ClsEq (K : PySem.W.Frag) (C : Addr) : Prop where
  eq : PySem.W.findIn K (.ref C) "__eq__" = some (some (.builtin "object.__eq__"))
  ob : PySem.W.mroIn K C (.type "object") = some true
  nt : PySem.W.subIn K (.type "int") (.ref C) = some false
section
variable {X : Cx}
def rEqOI (C : Addr) : R2 := fun x y H Q => ∃ (a dx : Addr) (fs : List (Str × V)) (i : Int), x = .ref a ∧ y = .int i ∧ H a = some (.ins C dx fs) ∧ Q (.bl false) H
theorem op_eqOI {C : Addr} (q : ClsEq X.K C) (hu : X.A.units < cLine) : OpR X (compareOp .Eq) (rEqOI C) := by
  intro pins s σ H x y v u Q I rx ry h
  obtain ⟨a, dx, fs, i, rfl, rfl, ha, hq⟩ := h
  cases (show v = Value.ref a from rx)
  obtain ⟨t, rfl⟩ := ry
  obtain ⟨mA, J, _⟩ := ins_get I.hok ha
  obtain ⟨od, J, _⟩ := J.look
  exact richCompare_inst_int hu I.kIn J q.eq q.ob q.nt ⟨.bl false, H, I, rfl, hq⟩
/-! ### len(set(xs)) for any ints -/
def distinct (ns : List Int) : Nat := (firstMet (fun i => ns.getD i 0) ns.length).length
theorem distinct_nodup {ns : List Int} (h : ns.Nodup) : distinct ns = ns.length := by
  unfold distinct
  rw [firstMet_nodup ns h ns.length (Nat.le_refl _), List.take_length]
theorem distinct_two {x : Int} : distinct [x, x] = 1 := by
  simp [distinct, firstMet, step_dedup, List.range_succ]
def tLenSetD (K : PySem.W.Frag) (ta : TE) : TE := fun σ H Q => ta σ H fun x H1 => ∃ (l : Addr) (ns : List Int), x = V.ref l ∧ SqL K H1 l (ns.map V.int) ∧ ns.length < 64 ∧ Q (.int (distinct ns)) H1
theorem pe_lenSetD {a : Expr} {ta : TE} {p p2 q pos : Pos} (hc : X.calm = true) (hg : Gl X "len") (hm : X.mg "len" = none) (hg2 : Gl X "set") (hm2 : X.mg "set" = none) (ha : PE X a ta)
    (na : starEach [a] X.env = (false, eval a X.env) :: starEach [] X.env := by rfl) : PE X (.Call (.Name "len" p) [.Call (.Name "set" p2) [a] [] q] [] pos) (tLenSetD X.K ta) := by
  refine ⟨fun pins s σ H Q I h => ?_⟩
  refine Call_ (ld_blt I hg hm PySem.boot_len ?_)
  refine PyProof.Rows.callWith_builtin1 (PyProof.Rows.args_cons ?_ rfl) rfl rfl
  refine Call_ (ld_blt I hg2 hm2 PyProof.Rows.boot_set ?_)
  refine PyProof.Rows.callWith_type1 (PyProof.Rows.args_cons (thn (ha.run pins s σ H _ I h) fun v s1 ⟨x, H1, I1, r1, q1⟩ => PyProof.Rows.args_nil ?_) na) na rfl
  obtain ⟨l, ns, rfl, hq, h1, q1⟩ := q1
  cases r1
  obtain ⟨its, r, pl, hz⟩ := I1.list hq
  have hl : its.toArray.size = ns.length := by rw [List.size_toArray, ← r.length, List.length_map]
  refine call_set_list (I1.ok.hd hc) pl.isList (ns := ns) (by simpa using r.ints) (by unfold scanBound; omega) fun h' tk hS hk => ?_
  rw [hl] at hS
  refine PyProof.Rows.args_nil ?_
  obtain ⟨o, es, ep, t, ho, hex, hd, _, _, _, hf, hn⟩ := hS
  have I2 : Inv X pins σ H1 { s1 with heap := h', toks := tk } := I1.kept fun b o e => hk b o (Heap.lt_size e) e
  have dl : (firstMet (fun i => ns.getD i 0) ns.length).length < 64 := Nat.lt_of_le_of_lt (firstMet_length_le _ _) h1
  refine call_len_set ho hex hd hf (by rw [hn] <;> omega) ⟨.int (distinct ns), H1, I2.tok _, ⟨_, by rw [hn]; rfl⟩, q1⟩
end
theorem for_enum {K : PySem.W.Frag} {a : Addr} {xs : List V} {g : TG} {tb : TS} {D : Ends} {σ : St} {H : Hp} (Pv : Nat → St → Hp → Prop) (h0 : Pv 0 σ H) (hl : ∀ i σ H, i ≤ xs.length → Pv i σ H → SqL K H a xs)
    (hs : ∀ (i : Nat) x T σ H, xs[i]? = some x → Pv i σ H → H T = none → g (.ref T) σ (upd H T (.tup [.int i, x])) fun σ2 H2 => tb { D with nx := Pv (i + 1), ct := Pv (i + 1), bk := D.nx } σ2 H2) (hd : ∀ σ H, Pv xs.length σ H → D.nx σ H) :
    ∃ W : Nat → Nat → St → Hp → Prop, (∃ m, W 0 m σ H) ∧ ∀ i m σ H, W i m σ H →
      ((Ite K a).stop i H ∧ D.nx σ H) ∨ ((Ite K a).go i H ∧ ∃ N : St → Hp → Prop, (∀ σ' H', N σ' H' → ∃ m', m' < m ∧ W (i + 1) m' σ' H') ∧ ∀ x H', (Ite K a).yld i H x H' → g x σ H' fun σ2 H2 => tb { D with nx := N, ct := N, bk := D.nx } σ2 H2) := by
  refine ⟨fun i m σ H => m = xs.length - i ∧ i ≤ xs.length ∧ Pv i σ H, ⟨xs.length, by simp, Nat.zero_le _, h0⟩, ?_⟩
  rintro i m σ H ⟨rfl, hi, p⟩
  have q := hl i σ H hi p
  by_cases hlt : i < xs.length
  · refine .inr ⟨⟨xs, xs[i], q, by simp [hlt]⟩, Pv (i + 1), fun σ' H' p' => ⟨xs.length - (i + 1), by omega, rfl, hlt, p'⟩, fun x H' y => ?_⟩
    obtain ⟨T, v, rfl, n, rfl, y⟩ := y
    exact hs i v T σ H (y xs q) p n
  · have e : i = xs.length := by omega
    subst e
    exact .inl ⟨⟨xs, q, Nat.le_refl _⟩, hd σ H p⟩
end L2

set_option Elab.async false
set_option linter.all false
set_option maxRecDepth 100000
/-! dicts whose keys are ints: what a reading asks of them, over lists of pairs -/
namespace L2
open PySem PySem.Spec PyProof.Rows
section
variable {X : Cx}
/-- name = {..} on one line, the name a local: the dict comprehension's form of the rule for a list -/
theorem ps_setDc {i : Nat} {y : Str} {py : Pos} {kx vx tg iter : Expr} {ifs : List Expr} {scope : Scope} {own : List (Str × Nat)} {pos spos : Pos} {wi : TI} {g : TG} {tt : TT} {tk tv : TE} (hc : X.calm = true) (hN : X.N.Nodup) (hy : X.N[i]? = some y) (hyl : X.env.scope.names.lookup y = some .local)
    (hsw : swapsWith (.DictComp kx vx [⟨tg, iter, ifs, 0⟩] scope pos) (some (.Name y py)) spos.line X.env = pure true) (hi : PI X tg iter wi) (ok : BlkOk X.N X.env.scope scope own)
    (hg : ∀ (s : Shared) (H : Hp) (C : Addr) (cl : List (Str × Addr)) (fp : List Addr), PG (X.blk s H scope (compEnvC scope cl C X.env) fp) tg g) (ht : ∀ (s : Shared) (H : Hp) (C : Addr) (cl : List (Str × Addr)) (fp : List Addr), PTs (X.blk s H scope (compEnvC scope cl C X.env) fp) ifs tt)
    (hk : ∀ (s : Shared) (H : Hp) (C : Addr) (cl : List (Str × Addr)) (fp : List Addr), PE (X.blk s H scope (compEnvC scope cl C X.env) fp) kx tk)
    (he : ∀ (s : Shared) (H : Hp) (C : Addr) (cl : List (Str × Addr)) (fp : List Addr), PE (X.blk s H scope (compEnvC scope cl C X.env) fp) vx tv) (hs : ∀ x, foldedSetIterable iter X.env x = pure x := by intro _; rfl) :
    PS X (.Assign [.Name y py] (.DictComp kx vx [⟨tg, iter, ifs, 0⟩] scope pos) spos) (tAsg (tDc wi g tt tk tv (own.map (·.2))) (gName i)) := by
  refine ⟨fun pins s σ H D I h => ?_⟩
  rw [exec_Assign_Name_used _ _ _ _ hsw]
  refine wpAny_bind (wpAny_standAt (wpAny_bind ?_))
  show wpAny _ X.A (do let _ ← comprehension (.DictComp kx vx [⟨tg, iter, ifs, 0⟩] scope pos) scope X.env (firstIterPos [⟨tg, iter, ifs, 0⟩] pos) newDict false (eval iter X.env) (some (assign (.Name y py) X.env))) _ _ s
  have h : tDc wi g tt tk tv (own.map (·.2)) σ H (fun x H1 => gName i x σ H1 D.nx) := h
  refine wpAny_bind (thn (dc_core (Qf := fun _ s' => SP X pins D .next s') hc hN I hi ok hg ht hk he hs h fun L C s' m H' I' q hn f => ?_) fun _ s' hq => wpAny_pure (wpAny_pure hq))
  show wpAny _ _ (assign (.Name y py) X.env (.ref L)) _ _ _
  refine wpAny_assign_Name (store_ok2 (v := V.ref L) I' hN hy (.inl hyl) rfl (fun s2 I2 ⟨a, sb, ha⟩ => ?_) (.inr hyl))
  obtain ⟨f0, f1, f2, f3, f4, f5⟩ := f
  have haC : C ≠ a := by
    rcases ha with z | z
    · rw [z]; exact f1
    · exact fun e => f4 y a z e.symm
  refine ⟨m, hn.sameBut sb haC, fun h3 sb3 => ?_⟩
  exact ⟨_, H', I2.turned (t' := s2.toks) (fun b o hb e => (sb3.2 b hb).trans e) f0 f1 f3 f4 f5, q⟩
theorem sw_trueD {kx vx : Expr} {gs : List Comprehension} {scope : Scope} {pos py : Pos} {y : Str} {l : Nat} {env : Env} (hk : env.scope.kind = .function) (hy : env.scope.names.lookup y = some .local) (hl : (py.line == pos.line) = true)
    (ha : (scope.names.any fun (n, k) => n == y && (k == .local || k == .cell)) = false) : swapsWith (.DictComp kx vx gs scope pos) (some (.Name y py)) l env = pure true := by
  have ky : env.kindOf y = some .local := hy
  have hb : env.blockKind = .function := by unfold Env.blockKind; rw [hk]; rfl
  unfold swapsWith
  simp only [hb, ky, ha, Expr.pos, hl]
  rfl
end
end L2
namespace Rd
open PySem PySem.Spec PyProof.Rows L2
variable {K : PySem.W.Frag} {σ : L2.St} {H : Hp} {D : Ends} {Q : VK} {ta tb te tc td ty tx : TE} {x y v : V}
/-- a dict of ints to values, in order -/
abbrev DI (m : List (Int × V)) : HO := .dK (m.map fun p => (Sum.inl p.1, p.2))
def lk (m : List (Int × V)) (k : Int) : Option V := (m.find? fun p => decide (p.1 = k)).map (·.2)
def pt (m : List (Int × V)) (k : Int) (v : V) : List (Int × V) := if (m.any fun p => decide (p.1 = k)) = true then m.map (fun p => if p.1 = k then (p.1, v) else p) else m ++ [(k, v)]
theorem valV_di (m : List (Int × V)) (k : Int) : valV (m.map fun p => ((Sum.inl p.1 : Key), p.2)) (Sum.inl k) = lk m k := by
  unfold valV lk
  induction m with
  | nil => rfl
  | cons a r ih =>
    rw [List.map_cons, List.find?_cons, List.find?_cons]
    by_cases h : a.1 = k
    · have e : decide ((Sum.inl a.1 : Key) = Sum.inl k) = true := decide_eq_true (by rw [h])
      rw [e, decide_eq_true h]; rfl
    · have e : decide ((Sum.inl a.1 : Key) = Sum.inl k) = false := decide_eq_false fun z => h (Sum.inl.inj z)
      rw [e, decide_eq_false h]; exact ih
theorem putK_di (m : List (Int × V)) (k : Int) (v : V) : putK (m.map fun p => ((Sum.inl p.1 : Key), p.2)) (Sum.inl k) v = (pt m k v).map fun p => ((Sum.inl p.1 : Key), p.2) := by
  have e : ∀ p : Int × V, decide ((Sum.inl p.1 : Key) = Sum.inl k) = decide (p.1 = k) := fun p => by
    by_cases h : p.1 = k
    · rw [decide_eq_true h, decide_eq_true (by rw [h])]
    · rw [decide_eq_false h, decide_eq_false fun z => h (Sum.inl.inj z)]
  unfold putK pt
  rw [List.any_map]
  have e2 : (m.any ((fun kv : Key × V => decide (kv.1 = Sum.inl k)) ∘ fun p => ((Sum.inl p.1 : Key), p.2))) = m.any fun p => decide (p.1 = k) := by
    congr 1; funext p; exact e p
  rw [e2]
  split
  · rw [List.map_map, List.map_map]
    congr 1; funext p
    show (if (Sum.inl p.1 : Key) = Sum.inl k then ((Sum.inl p.1 : Key), v) else (Sum.inl p.1, p.2)) = _
    by_cases h : p.1 = k
    · simp [h]
    · have h2 : ¬ (Sum.inl p.1 : Key) = Sum.inl k := fun z => h (Sum.inl.inj z)
      simp [h]
  · rw [List.map_append]; rfl
theorem get_di {a : Addr} {m : List (Int × V)} {k : Int} (h : Rd H a (DI m)) : DGet H a (.int k) (lk m k) := .inl ⟨_, Sum.inl k, h, rfl, (valV_di m k).symm⟩
theorem rd_of {a : Addr} {u : HO} (h : H a = some u) : L2.Rd H a u := .inl h
theorem rd_fz {a : Addr} {u : HO} {o : Obj} (h : H a = some (.frz o u)) : L2.Rd H a u := .inr ⟨o, h⟩
theorem lk_pt (m : List (Int × V)) (k k' : Int) (v : V) : lk (pt m k v) k' = if k' = k then some v else lk m k' := by
  unfold pt
  split
  · rename_i c
    unfold lk
    induction m with
    | nil => simp at c
    | cons a r ih =>
      rw [List.map_cons, List.find?_cons, List.find?_cons]
      by_cases h : a.1 = k
      · rw [if_pos h]
        by_cases h2 : k' = k
        · rw [if_pos h2, decide_eq_true (by rw [h, h2])]; rfl
        · have e : ¬ a.1 = k' := fun z => h2 (by rw [← z, h])
          rw [if_neg h2, decide_eq_false e]
          have e2 : List.map (fun p => if p.1 = k then (p.1, v) else p) r = List.map (fun p => if p.1 = k then (p.1, v) else p) r := rfl
          have : (List.find? (fun p => decide (p.1 = k')) (List.map (fun p => if p.1 = k then (p.1, v) else p) r)).map (·.2) = (List.find? (fun p => decide (p.1 = k')) r).map (·.2) := by
            clear ih c e2
            induction r with
            | nil => rfl
            | cons b r ih =>
              rw [List.map_cons, List.find?_cons, List.find?_cons]
              by_cases h3 : b.1 = k
              · rw [if_pos h3, decide_eq_false (fun z : b.1 = k' => h2 (by rw [← z, h3]))]; exact ih
              · rw [if_neg h3]
                by_cases h4 : b.1 = k'
                · rw [decide_eq_true h4]
                · rw [decide_eq_false h4]; exact ih
          exact this
      · rw [if_neg h]
        have c2 : (r.any fun p => decide (p.1 = k)) = true := by
          rw [List.any_cons, decide_eq_false h, Bool.false_or] at c; exact c
        by_cases h4 : a.1 = k'
        · have e : ¬ k' = k := fun z => h (by rw [h4, z])
          rw [decide_eq_true h4, if_neg e]
        · rw [decide_eq_false h4]; exact ih c2
  · rename_i c
    unfold lk
    rw [List.find?_append]
    have nk : ∀ p ∈ m, ¬ p.1 = k := fun p hp z => c (List.any_eq_true.mpr ⟨p, hp, decide_eq_true z⟩)
    by_cases h2 : k' = k
    · rw [if_pos h2, h2]
      have e : List.find? (fun p => decide (p.1 = k)) m = none := List.find?_eq_none.mpr fun p hp z => nk p hp (of_decide_eq_true z)
      rw [e]; simp
    · rw [if_neg h2]
      have e : ¬ k = k' := fun z => h2 z.symm
      have e2 : List.find? (fun p : Int × V => decide (p.1 = k')) [(k, v)] = none := by simp [e]
      rw [e2, Option.or_none]
theorem pt_len {m : List (Int × V)} {k : Int} {v : V} : (pt m k v).length ≤ m.length + 1 := by
  unfold pt
  split <;> simp
/-! ### expressions -/
def NewD (Q : VK) (H : Hp) : Prop := ∀ p, H p = none → Q (.ref p) (upd H p (.dK []))
theorem dnew (h : NewD Q H) : tDNewK σ H Q := h
theorem nwD (h : ∀ p H', H p = none → Same H H' → H' p = some (DI []) → Q (.ref p) H') : NewD Q H := fun p np => h p _ np (same_new np) upd_same
def DinG (Q : VK) (x y : V) (H : Hp) : Prop := ∃ a o, x = .ref a ∧ DGet H a y o ∧ Q (.bl o.isSome) H
theorem din (h : ty σ H fun y H1 => td σ H1 fun x H2 => DinG Q x y H2) : tDIn ty td σ H Q := h
theorem dinI {a : Addr} {m : List (Int × V)} {k : Int} (h : L2.Rd H a (DI m)) (q : Q (.bl (lk m k).isSome) H) : DinG Q (.ref a) (.int k) H := ⟨a, _, rfl, get_di h, q⟩
def DnotG (Q : VK) (x y : V) (H : Hp) : Prop := ∃ a o, x = .ref a ∧ DGet H a y o ∧ Q (.bl (!o.isSome)) H
theorem dnot (h : ty σ H fun y H1 => td σ H1 fun x H2 => DnotG Q x y H2) : tDNotIn ty td σ H Q := h
theorem dnotI {a : Addr} {m : List (Int × V)} {k : Int} (h : L2.Rd H a (DI m)) (q : Q (.bl (!(lk m k).isSome)) H) : DnotG Q (.ref a) (.int k) H := ⟨a, _, rfl, get_di h, q⟩
def DgG (Q : VK) (x y : V) (H : Hp) : Prop := ∃ a v, x = .ref a ∧ DGet H a y (some v) ∧ Q v H
theorem dget (h : td σ H fun x H1 => ty σ H1 fun y H2 => DgG Q x y H2) : tDGet td ty σ H Q := h
theorem dgetI {a : Addr} {m : List (Int × V)} {k : Int} (h : L2.Rd H a (DI m)) (e : lk m k = some v) (q : Q v H) : DgG Q (.ref a) (.int k) H := ⟨a, v, rfl, e ▸ get_di h, q⟩
def Dg2G (Q : VK) (a : Addr) (y z : V) (H : Hp) : Prop := ∃ o, DGet H a y o ∧ Q (o.getD z) H
theorem dget2 (h : td σ H fun x H1 => ∃ a, x = .ref a ∧ IsD H1 a ∧ ty σ H1 fun y H2 => tx σ H2 fun z H3 => Dg2G Q a y z H3) : tDGet2 td ty tx σ H Q := h
theorem isd {a : Addr} {m : List (Int × V)} {A : Prop} (h : H a = some (DI m)) (q : A) : IsD H a ∧ A := ⟨.inl ⟨_, .inl h⟩, q⟩
theorem dget2I {a : Addr} {m : List (Int × V)} {k : Int} {z : V} (h : L2.Rd H a (DI m)) (q : Q ((lk m k).getD z) H) : Dg2G Q a (.int k) z H := ⟨_, get_di h, q⟩
def DpG (D : Ends) (σ : L2.St) (x y v : V) (H : Hp) : Prop := ∃ a H4, x = .ref a ∧ DPut H a y v H4 ∧ D.nx σ H4
theorem dput {tv : TE} (h : tv σ H fun v H1 => td σ H1 fun x H2 => ty σ H2 fun y H3 => DpG D σ x y v H3) : sDPut td ty tv D σ H := h
theorem dputI {a : Addr} {m : List (Int × V)} {k : Int} (h : H a = some (DI m)) (l : m.length < 100000) (q : D.nx σ (upd H a (DI (pt m k v)))) : DpG D σ (.ref a) (.int k) v H :=
  ⟨a, _, rfl, .inl ⟨_, Sum.inl k, h, rfl, by rw [List.length_map]; exact szl l, rfl⟩, by rw [putK_di]; exact q⟩
/-- dict(d) -/
def DictOf (Q : VK) (vs : List V) (H : Hp) : Prop := ∃ (a : Addr) (kvs : List (Key × V)), vs = [.ref a] ∧ L2.Rd H a (.dK kvs) ∧ ∀ p, H p = none → Q (.ref p) (upd H p (.dK kvs))
theorem cbDictOf {tr : TA} (h : tr σ H (DictOf Q)) : tCB (fun xs H Q => ∃ (a : Addr) (kvs : List (Key × V)), xs = [.ref a] ∧ L2.Rd H a (.dK kvs) ∧ ∀ p, H p = none → Q (.ref p) (upd H p (.dK kvs))) tr σ H Q := h
theorem dictOf {a : Addr} {m : List (Int × V)} (s : H a = some (DI m)) (h : ∀ p H', H p = none → Same H H' → H' p = some (DI m) → Q (.ref p) H') : DictOf Q [.ref a] H := ⟨a, _, rfl, .inl s, fun p np => h p _ np (same_new np) upd_same⟩
theorem isi_dd {n : Addr} {m : List (Int × V)} (h : H n = some (DI m)) (q : Q (.bl true) H) : rIsi K [.ref n, .ty "dict"] H Q := isi (.base (.dK h)) (by decide +kernel) q
/-! ### == -/
theorem neDict {a b : Addr} {m n : List (Int × V)} (ea : H a = some (DI m)) (eb : H b = some (DI n)) (l : m.length = n.length) (e : ∀ p ∈ m, lk n p.1 = some p.2 ∧ flatB p.2 = true) (q : Q (.bl false) H) : rNeDA (.ref a) (.ref b) H Q :=
  ⟨a, b, _, _, rfl, rfl, ea, eb, by rw [List.length_map, List.length_map]; exact l, fun p hp => by
    obtain ⟨x, hx, rfl⟩ := List.mem_map.mp hp
    rw [valV_di]; exact e x hx, q⟩
theorem eqDict {a b : Addr} {m n : List (Int × V)} (ea : H a = some (DI m)) (eb : H b = some (DI n)) (l : m.length = n.length) (e : ∀ p ∈ m, lk n p.1 = some p.2 ∧ flatB p.2 = true) (q : Q (.bl true) H) : rEqDA (.ref a) (.ref b) H Q :=
  ⟨a, b, _, _, rfl, rfl, ea, eb, by rw [List.length_map, List.length_map]; exact l, fun p hp => by
    obtain ⟨x, hx, rfl⟩ := List.mem_map.mp hp
    rw [valV_di]; exact e x hx, q⟩
/-! ### walks -/
variable {R : It → Hp → Prop}
theorem iitems (h : te σ H fun x H1 => ∃ d o kvs, x = .ref d ∧ H1 d = some (.frz o (.dK kvs)) ∧ R (Iti d o kvs) H1) : iItems te σ H R := h
theorem itA {d : Addr} {o : Obj} {kvs : List (Key × V)} {P : Addr → Obj → List (Key × V) → Prop} (h : H d = some (.frz o (.dK kvs))) (q : P d o kvs) : ∃ d' o' kvs', V.ref d = .ref d' ∧ H d' = some (.frz o' (.dK kvs')) ∧ P d' o' kvs' := ⟨d, o, kvs, rfl, h, q⟩
theorem ikeys (h : te σ H fun x H1 => ∃ d o, x = .ref d ∧ ((∃ kvs, H1 d = some (.frz o (.dK kvs)) ∧ R (Itk d o kvs) H1) ∨ ∃ kvs, H1 d = some (.frz o (.dT kvs)) ∧ R (Itkt d o kvs) H1)) : iKeys te σ H R := h
theorem ikA {d : Addr} {o : Obj} {kvs : List (Key × V)} {P : Addr → Obj → List (Key × V) → Prop} {B : Addr → Obj → Prop} (h : H d = some (.frz o (.dK kvs))) (q : P d o kvs) : ∃ d' o', V.ref d = .ref d' ∧ ((∃ kvs', H d' = some (.frz o' (.dK kvs')) ∧ P d' o' kvs') ∨ B d' o') := ⟨d, o, rfl, .inl ⟨kvs, h, q⟩⟩
theorem lockS {t : TS} {d : Addr} {m : List (Int × V)} (h : H d = some (DI m)) (q : ∀ od, t ⟨fun σ' H' => H' d = some (.frz od (DI m)) ∧ D.nx σ' (upd H' d (DI m)), fun v H' => H' d = some (.frz od (DI m)) ∧ D.rt v (upd H' d (DI m)), fun σ' H' => H' d = some (.frz od (DI m)) ∧ D.bk σ' (upd H' d (DI m)), fun σ' H' => H' d = some (.frz od (DI m)) ∧ D.ct σ' (upd H' d (DI m))⟩ σ (upd H d (.frz od (DI m)))) : tLock t D σ H :=
  ⟨d, _, h, trivial, q⟩
theorem lockE {t : TE} {d : Addr} {m : List (Int × V)} (h : H d = some (DI m)) (q : ∀ od, t σ (upd H d (.frz od (DI m))) fun v H' => H' d = some (.frz od (DI m)) ∧ Q v (upd H' d (DI m))) : tLockE t σ H Q := ⟨d, _, h, trivial, q⟩
/-- the dict given back: all is kept -/
theorem unlock {H' : Hp} {d : Addr} {u : HO} (h : H d = some u) (b : But d H H') : Same H (upd H' d u) := fun c o e => by
  by_cases z : c = d
  · subst z; rw [upd_same]; exact h.symm.trans e
  · rw [upd_ne z]; exact b c o z e
theorem lock {d : Addr} {u : HO} : But d H (upd H d u) := But.at_
/-- the i-th pair of a walk over items: a new tuple -/
theorem items_at {m : List (Int × V)} {i : Nat} {x : V} {H H' : Hp} (y : YPair (fun i => ((m.map fun p => ((Sum.inl p.1 : Key), p.2))[i]?).map fun kv => kV kv.1) (fun i => ((m.map fun p => ((Sum.inl p.1 : Key), p.2))[i]?).map Prod.snd) i H x H') :
    ∃ (T : Addr) (p : Int × V), m[i]? = some p ∧ x = .ref T ∧ H T = none ∧ H' = upd H T (.tup [.int p.1, p.2]) := by
  obtain ⟨T, a, b, e1, e2, e3, e4, e5⟩ := y
  dsimp only at e4 e5
  rw [List.getElem?_map] at e4 e5
  cases e : m[i]? with
  | none => rw [e] at e4; cases e4
  | some p =>
    rw [e] at e4 e5
    cases e4; cases e5
    exact ⟨T, p, rfl, e1, e2, e3⟩
theorem keys_at {m : List (Int × V)} {i : Nat} {x : V} {H H' : Hp} (y : H' = H ∧ ∃ k v, (m.map fun p => ((Sum.inl p.1 : Key), p.2))[i]? = some (k, v) ∧ x = kV k) : H' = H ∧ ∃ p : Int × V, m[i]? = some p ∧ x = .int p.1 := by
  obtain ⟨e, k, v, h, rfl⟩ := y
  rw [List.getElem?_map] at h
  cases e2 : m[i]? with
  | none => rw [e2] at h; cases h
  | some p => rw [e2] at h; cases h; exact ⟨e, p, rfl, rfl⟩
/-! ### comprehensions -/
theorem dc {wi : TI} {g : TG} {tt : TT} {tk tv : TE} {ws : List Nat} (h : wi σ H fun J H1 => ∀ D, H1 D = none → ∃ W : Nat → Nat → Hp → Prop, (∃ m, W 0 m (upd H1 D (.dK []))) ∧ ∀ i m H, W i m H →
  (J.stop i H ∧ Q (.ref D) H) ∨ (J.go i H ∧ ∃ Nx : Hp → Prop, (∀ H', Nx H' → ∃ m', m' < m ∧ W (i + 1) m' H') ∧ ∀ x H', J.yld i H x H' → g x (wipe σ ws) H' fun σ2 H2 => wipe σ2 ws = wipe σ ws ∧ tt σ2 H2 fun b H3 =>
    if b = true then tk σ2 H3 fun y H4 => tv σ2 H4 fun z H5 => ∃ kvs k, y = kV k ∧ H5 D = some (.dK kvs) ∧ kvs.length < sizeLine ∧ Nx (upd H5 D (.dK (putK kvs k z))) else Nx H3)) : tDc wi g tt tk tv ws σ H Q := h
theorem dc_it {J : It} {n : Nat} {G : Hp → Prop} {Y : Nat → Hp → V → Hp → Prop} (w : Walk J n G Y) {g : TG} {tt : TT} {tk tv : TE} {vs : List Nat} {H1 : Hp} {d : Addr} {Qd : Hp → Prop} (Pv : Nat → Hp → Prop) (h0 : Pv 0 (upd H1 d (DI []))) (hG : ∀ i H, i ≤ n → Pv i H → G H)
    (hs : ∀ i x H H' (Kt : V → V → Hp → Prop) (Kn : Hp → Prop), i < n → Pv i H → Y i H x H' → (∀ m k z H5, H5 d = some (DI m) → m.length < 100000 → Pv (i + 1) (upd H5 d (DI (pt m k z))) → Kt (.int k) z H5) → (∀ H3, Pv (i + 1) H3 → Kn H3) →
      g x (wipe σ vs) H' fun σ2 H2 => wipe σ2 vs = wipe σ vs ∧ tt σ2 H2 fun b H3 => if b = true then tk σ2 H3 fun y H4 => tv σ2 H4 fun z H5 => Kt y z H5 else Kn H3)
    (hd : ∀ H, Pv n H → Qd H) :
    ∃ W : Nat → Nat → Hp → Prop, (∃ m, W 0 m (upd H1 d (.dK []))) ∧ ∀ i m H, W i m H →
      (J.stop i H ∧ Qd H) ∨ (J.go i H ∧ ∃ Nx : Hp → Prop, (∀ H', Nx H' → ∃ m', m' < m ∧ W (i + 1) m' H') ∧ ∀ x H', J.yld i H x H' → g x (wipe σ vs) H' fun σ2 H2 => wipe σ2 vs = wipe σ vs ∧ tt σ2 H2 fun b H3 =>
        if b = true then tk σ2 H3 fun y H4 => tv σ2 H4 fun z H5 => ∃ kvs k, y = kV k ∧ H5 d = some (.dK kvs) ∧ kvs.length < sizeLine ∧ Nx (upd H5 d (.dK (putK kvs k z))) else Nx H3) := by
  refine ⟨fun i m H => m = n - i ∧ i ≤ n ∧ Pv i H, ⟨n, by simp, Nat.zero_le _, h0⟩, ?_⟩
  rintro i m H ⟨rfl, hi, p⟩
  have q := hG i H hi p
  by_cases hlt : i < n
  · refine .inr ⟨w.goes i H hlt q, Pv (i + 1), fun H' p' => ⟨n - (i + 1), by omega, rfl, hlt, p'⟩, fun x H' y => ?_⟩
    exact hs i x H H' (fun y z H5 => ∃ kvs k, y = kV k ∧ H5 d = some (.dK kvs) ∧ kvs.length < sizeLine ∧ Pv (i + 1) (upd H5 d (.dK (putK kvs k z)))) _ hlt p (w.yields i H x H' hlt q y)
      (fun m k z H5 h5 hl r => ⟨_, Sum.inl k, rfl, h5, by rw [List.length_map]; exact szl hl, by rw [putK_di]; exact r⟩) fun _ h => h
  · have e : i = n := by omega
    subst e
    exact .inl ⟨w.stops H q, hd H p⟩
end Rd

set_option Elab.async false
set_option linter.all false
set_option maxRecDepth 100000
namespace L2
open PySem PySem.Spec PyProof.Rows
/-- max(xs, default=d) of a list of ints -/
def rMaxDf (K : PySem.W.Frag) : List V → List V → Hp → VK → Prop := fun vs zs H Q => ∃ (a : Addr) (ns : List Int) (d : V), vs = [V.ref a] ∧ zs = [d] ∧ SqL K H a (ns.map V.int) ∧ (ns = [] → Q d H) ∧ ∀ m, m ∈ ns → (∀ y ∈ ns, y ≤ m) → Q (.int m) H
theorem maxOf_spec (y : Int) (ys : List Int) : PySem.W.maxOf y ys ∈ y :: ys ∧ ∀ z ∈ y :: ys, z ≤ PySem.W.maxOf y ys := by
  unfold PySem.W.maxOf
  induction ys generalizing y with
  | nil => simp
  | cons b r ih =>
    obtain ⟨h1, h2⟩ := ih (if PySem.W.DatumOrd.lt y b = true then b else y)
    have e : (PySem.W.DatumOrd.lt y b = true) = (y < b) := by
      show (decide (y < b) = true) = (y < b)
      simp
    rw [List.foldl_cons]
    refine ⟨?_, fun z m => ?_⟩
    · rcases List.mem_cons.mp h1 with h | h
      · rw [h]
        split
        · exact List.mem_cons_of_mem _ List.mem_cons_self
        · exact List.mem_cons_self
      · exact List.mem_cons_of_mem _ (List.mem_cons_of_mem _ h)
    · have h0 := h2 _ List.mem_cons_self
      by_cases c : y < b
      · rw [if_pos (by rw [e]; exact c)] at h0 h2 ⊢
        rcases List.mem_cons.mp m with rfl | m
        · omega
        rcases List.mem_cons.mp m with rfl | m
        · exact h0
        · exact h2 z (List.mem_cons_of_mem _ m)
      · rw [if_neg (by rw [e]; exact c)] at h0 h2 ⊢
        rcases List.mem_cons.mp m with rfl | m
        · exact h0
        rcases List.mem_cons.mp m with rfl | m
        · omega
        · exact h2 z (List.mem_cons_of_mem _ m)
theorem cr_maxDf {X : Cx} (hc : X.calm = true) (hu : X.A.units + 65 < cLine) : CallRK X (.builtin "max") [Str.ofString "default"] (rMaxDf X.K) := by
  intro pins s σ H vs zs us ws Q I r rz h
  obtain ⟨a, ns, d, rfl, rfl, hs, h0, h1⟩ := h
  obtain ⟨its, rv, hl, _⟩ := I.list hs
  rw [Vals.ref1 r]
  cases rz with
  | cons rd rt =>
    rename_i ud ut
    cases rt
    show wpAny _ _ (call (.builtin "max") [.ref a] [(Str.ofString "default", ud)]) _ _ s
    refine PySem.W.max_list_datum_default (α := Int) (xs := ns) (I.ok.hd hc) hl.isList (PySem.W.HoldAll.of_ints rv.ints) (by show X.A.units + 1 + 0 < cLine; omega) (fun e h' tk hk => ⟨d, H, I.kept hk, rd, h0 e⟩) fun y ys i v h' tk e hi hv hk => ?_
    obtain ⟨as, rd2⟩ := hv
    subst e
    obtain ⟨m1, m2⟩ := maxOf_spec y ys
    generalize hm : PySem.W.maxOf y ys = m at *
    have rd3 : Reads h' v (.int m) as := rd2
    cases rd3
    exact ⟨.int m, H, I.kept hk, ⟨_, rfl⟩, h1 m m1 m2⟩
end L2
namespace Rd
open PySem PySem.Spec PyProof.Rows L2
variable {K : PySem.W.Frag} {σ : L2.St} {H : Hp} {D : Ends} {Q : VK} {td ty tx : TE} {x y v : V} {tr tk : TA}
def MxG (K : PySem.W.Frag) (Q : VK) (vs zs : List V) (H : Hp) : Prop := rMaxDf K vs zs H Q
theorem ckw {r : List V → List V → Hp → VK → Prop} (h : tr σ H fun vs H1 => tk σ H1 fun zs H2 => r vs zs H2 Q) : tCKw r tr tk σ H Q := h
theorem maxDf {a : Addr} {ns : List Int} {d : V} (h : H a = some (.lst (ns.map V.int))) (h0 : ns = [] → Q d H) (h1 : ∀ m, m ∈ ns → (∀ y ∈ ns, y ≤ m) → Q (.int m) H) : rMaxDf K [.ref a] [d] H Q := ⟨a, ns, d, rfl, rfl, SqL.of h, h0, h1⟩
def StG (a : Addr) (y z : V) (Q : VK) (H3 : Hp) : Prop := ∃ (kvs : List (Key × V)) (k : Key), H3 a = some (.dK kvs) ∧ y = kV k ∧ kvs.length < sizeLine ∧ (∀ v, valV kvs k = some v → Q v H3) ∧ (valV kvs k = none → Q z (upd H3 a (.dK (putK kvs k z))))
theorem dsetd (h : td σ H fun x H1 => ∃ a, x = .ref a ∧ IsD H1 a ∧ ty σ H1 fun y H2 => tx σ H2 fun z H3 => StG a y z Q H3) : tDSetd td ty tx σ H Q := h
theorem dsetdI {a : Addr} {m : List (Int × V)} {k : Int} {z : V} (h : H a = some (DI m)) (l : m.length < 100000) (h1 : ∀ v, lk m k = some v → Q v H) (h2 : lk m k = none → Q z (upd H a (DI (pt m k z)))) : StG a (.int k) z Q H :=
  ⟨_, Sum.inl k, h, rfl, by rw [List.length_map]; exact szl l, fun v e => h1 v (by rw [← valV_di]; exact e), fun e => by rw [putK_di]; exact h2 (by rw [← valV_di]; exact e)⟩
def DlG (D : Ends) (σ : L2.St) (x y : V) (H2 : Hp) : Prop := ∃ a kvs k, x = .ref a ∧ H2 a = some (.dK kvs) ∧ y = kV k ∧ (valV kvs k).isSome = true ∧ D.nx σ (upd H2 a (.dK (dropK kvs k)))
theorem ddel (h : td σ H fun x H1 => ty σ H1 fun y H2 => DlG D σ x y H2) : sDDel td ty D σ H := h
def dr (m : List (Int × V)) (k : Int) : List (Int × V) := m.filter fun p => !decide (p.1 = k)
theorem dropK_di (m : List (Int × V)) (k : Int) : dropK (m.map fun p => ((Sum.inl p.1 : Key), p.2)) (Sum.inl k) = (dr m k).map fun p => ((Sum.inl p.1 : Key), p.2) := by
  unfold dropK dr
  induction m with
  | nil => rfl
  | cons a r ih =>
    rw [List.map_cons, List.filter_cons, List.filter_cons, ih]
    by_cases h : a.1 = k <;> simp [h]
theorem lk_dr (m : List (Int × V)) (k k' : Int) : lk (dr m k) k' = if k' = k then none else lk m k' := by
  unfold lk dr
  induction m with
  | nil => simp
  | cons a r ih =>
    rw [List.filter_cons]
    by_cases h : a.1 = k
    · rw [if_neg (by simp [h]), ih]
      by_cases h2 : k' = k
      · rw [if_pos h2, if_pos h2]
      · rw [if_neg h2, if_neg h2, List.find?_cons, decide_eq_false (by rw [h]; exact fun z => h2 z.symm)]
    · rw [if_pos (by simp [h]), List.find?_cons]
      by_cases h3 : a.1 = k'
      · rw [decide_eq_true h3, if_neg (by rw [← h3]; exact h), List.find?_cons, decide_eq_true h3]
      · rw [decide_eq_false h3]
        rw [ih, List.find?_cons, decide_eq_false h3]
theorem ddelI {a : Addr} {m : List (Int × V)} {k : Int} (h : H a = some (DI m)) (e : (lk m k).isSome = true) (q : D.nx σ (upd H a (DI (dr m k)))) : DlG D σ (.ref a) (.int k) H :=
  ⟨a, _, Sum.inl k, rfl, h, rfl, by rw [valV_di]; exact e, by rw [dropK_di]; exact q⟩
end Rd

set_option Elab.async false
set_option linter.all false
set_option maxRecDepth 100000
namespace L2
open PySem PySem.Spec PyProof.Rows
/-! set(xs) of a list of ints -/
/-- the set just made -/
abbrev eSet (w : World) : Obj := { cls := .type "set", dict := none, data := .set #[] 0 (.fresh 0 0 (!w.params.followText "set-order")) }
section
variable {P : Program} {w : World} {A : Around} {E : Value → Shared → Prop} {s : Shared}
/-- what the filling says of the heap behind it -/
def Filled (w : World) (s : Shared) (ns : List Int) (h' : Heap) (c : Nat) : Prop :=
  SetR w h' s.heap.objs.size (fun j => decide (j ∈ ns)) c ∧ c ≤ ns.length ∧ ∀ b o, s.heap.get? b = some o → h'.get? b = some o
set_option maxHeartbeats 3200000 in
theorem set_listI {l : Addr} {items : Array Value} (ns : List Int) {Q : Value → Shared → Prop} (hh : A.handled = none) (hl : s.heap.IsList l items) (hit : IntsAre items.toList ns) (hb : ns.length + 1 < scanBound)
    (h : ∀ (h' : Heap) (tk c : Nat), Filled w s ns h' c → Q (.ref s.heap.objs.size) { s with heap := h', toks := tk }) :
    wpAny (model P w) A (call (.type "set") [.ref l]) Q E s := by
  have hlS : l < s.heap.objs.size := by
    obtain ⟨ol, hol, _⟩ := hl
    exact Heap.lt_size hol
  have hisz : items.size = ns.length := by
    have q := IntsAre.length hit
    rwa [Array.length_toList] at q
  obtain ⟨c, tl, hmro⟩ := F.called_set.mro
  have hmade := F.called_set.made
  have hsub := F.called_set.sub
  have h1 := F.called_set.notType
  have h2 := F.called_set.canCreate
  have hct := F.typeCall_set_1 (.ref l)
  refine wpAny_call (codeAny_of_tree ?_)
  show wpAny _ _ (callAny (.type "set") _) _ _ _
  refine wpAny_pure ⟨Code.quiet_builtin _ (by decide +kernel), codeAny_builtin F.entry_type_call ?_⟩
  rw [Around.under_plain (weight_type_call_type "set" [.ref l] []) rfl]
  repeat (any_goals (first | assumption | wp_step))
  refine codeAny_mono (code_set_led1 (.ref l) (E := E) (Q₁ := fun obj s₁ => obj = .ref s.heap.objs.size ∧ s₁ = { s with heap := s.heap.push (eSet w) }) ⟨rfl, rfl⟩) fun r s₁ hr => ?_
  cases r with
  | error e => exact hr
  | ok fl =>
    cases fl with
    | ret obj =>
      obtain ⟨rfl, rfl⟩ := hr
      have hS : (s.heap.push (eSet w)).get? s.heap.objs.size = some (eSet w) := Heap.get?_push_size _ rfl
      have hT : Shared.TypeIs { s with heap := s.heap.push (eSet w) } (.ref s.heap.objs.size) "set" := ⟨_, hS, rfl⟩
      have hli := F.called_set.init.lookup
      have hbi := F.called_set.init.bind (.ref s.heap.objs.size)
      repeat (any_goals (first | assumption | wp_step))
      refine codeAny_mono (codeAny_call_builtin (R := wants (fun r s₂ => r = .none ∧ ∃ h' tk c, s₂ = { s with heap := h', toks := tk } ∧ Filled w s ns h' c) E) F.called_set.init.plain F.entry_set_init (check_set_init_1 hT ?_)) fun r₂ s₂ hr₂ => ?_
      · have hl1 : (s.heap.push (eSet w)).IsList l items := hl.push _
        obtain ⟨⟨ocls, odict, odata, oslots⟩, hol, hcl, nl, hdl⟩ := hl1
        simp only at hcl hdl
        subst hcl; subst hdl
        have hl1 : (s.heap.push (eSet w)).IsList l items := ⟨_, hol, rfl, nl, rfl⟩
        have hsls := F.sub_list_set
        have hslf := F.sub_list_frozenset
        have hne : (Value.type "list" == Value.type "dict") = false := by decide
        unfold Builtin.«set.__init__» noKeywords Builtin.Frozenset.updateFrom
        generalize hPI : pyIter = PI
        wp_walk
        subst hPI
        refine wpAny_pyIter_list hl1 ?_
        refine wpAny_bind (wpAny_runValue ?_)
        have hh3 : A.in1.in1.in1.handled = none := by simp [hh]
        have hneI : l ≠ (s.heap.push (eSet w)).objs.size := by
          rw [Heap.size_push]; exact Nat.ne_of_lt (Nat.lt_succ_of_lt hlS)
        have hSf : s.heap.objs.size ∉ [(s.heap.push (eSet w)).objs.size, l] := by
          rw [Heap.size_push]
          simp only [List.mem_cons, List.not_mem_nil, or_false, not_or]
          exact ⟨Nat.ne_of_lt (Nat.lt_succ_self _), Nat.ne_of_gt hlS⟩
        have hval : ∀ (i : Nat) (v : Value), items[i]? = some v → ∃ k t, ns[i]? = some k ∧ v = .int k t := fun i v hv => by
          have hi : i < ns.length := by rw [← hisz]; exact (Array.getElem?_eq_some_iff.mp hv).1
          obtain ⟨t, e⟩ := PyProof.Rows.IntsAre.int_at hit i v (by rw [Array.getElem?_toList]; exact hv)
          refine ⟨ns[i], t, List.getElem?_eq_getElem hi, ?_⟩
          rw [e, List.getD_eq_getElem?_getD, List.getElem?_eq_getElem hi] <;> rfl
        refine set_update_ints ((Walks.list hh3 _ l hneI items).toS) s.heap.objs.size hSf ns hisz hb hval (items.size - 0) 0 _ (by omega) (Nat.zero_le _)
          ⟨⟨_, Heap.get?_push_size _ rfl, rfl, rfl⟩, (hl1.push _)⟩ ⟨0, Nat.le_refl 0, setR_new_at (Heap.get?_push_of_some _ hS)⟩ ?_
        rintro ⟨h', g2, d', tk', os'⟩ c' hm hc' hS'
        have eg : g2 = s.gens := hm.gens
        have ed : d' = s.drawn := hm.drawn
        have eo : os' = s.os := hm.os
        subst eg; subst ed; subst eo
        show wpAny _ _ _ _ _ _
        refine wpAny_pure ?_
        show wpAny _ _ (ret Value.none) _ _ _
        refine wpAny_pure ⟨rfl, h', tk', c', rfl, hS', by omega, fun b o e => ?_⟩
        have hb0 : b < s.heap.objs.size := Heap.lt_size e
        refine hm.heap b o ?_ (Heap.get?_push_of_some _ (Heap.get?_push_of_some _ e))
        rw [Heap.size_push]
        simp only [List.mem_cons, List.not_mem_nil, or_false, not_or]
        exact ⟨Nat.ne_of_lt hb0, Nat.ne_of_lt (Nat.lt_succ_of_lt hb0)⟩
      · cases r₂ with
        | error e => exact hr₂
        | ok fl₂ =>
          cases fl₂ with
          | ret r =>
            obtain ⟨rfl, h', tk, c', rfl, hf⟩ := hr₂
            repeat (any_goals (first | assumption | wp_step))
            exact h _ _ _ hf
          | _ => exact hr₂.elim
    | _ => exact hr.elim
end
section
variable {X : Cx}
/-- set(xs) of a list of ints: its members, and at most as many as there are rows -/
def rSetI (K : PySem.W.Frag) (w : World) : List V → Hp → VK → Prop := fun xs H Q => ∃ (l : Addr) (ns : List Int), xs = [V.ref l] ∧ SqL K H l (ns.map V.int) ∧ ns.length + 1 < scanBound ∧
  ∀ (p : Addr) (c : Nat), c ≤ ns.length → (∃ ks : List Int, ks.Nodup ∧ (∀ k ∈ ks, k ∈ ns) ∧ ks.length = c) → H p = none → Q (.ref p) (upd H p (SetO w p (fun j => decide (j ∈ ns)) c))
theorem cr_setI (hc : X.calm = true) : CallR X (.type "set") (rSetI X.K X.w) := by
  intro pins s σ H xs us Q I r h
  obtain ⟨l, ns, rfl, hl, hb, q⟩ := h
  rw [Vals.ref1 r]
  obtain ⟨its, rv, pl, hz⟩ := I.list hl
  have hn : H s.heap.objs.size = none := I.hok.fresh (Nat.le_refl _)
  refine set_listI ns (I.ok.hd hc) pl.isList (by simpa using ints_of_vals rv) hb fun h' tk c hf => ?_
  exact ⟨.ref s.heap.objs.size, upd H s.heap.objs.size (SetO X.w s.heap.objs.size (fun j => decide (j ∈ ns)) c), I.laid (t' := tk) hf.2.2 (Nat.le_refl _) (setO_new hf.1), rfl, q _ c hf.2.1 (by
    obtain ⟨o, es, ep, t, ho, he, hd, hg, nd, mem, hs, hft, hn, _⟩ := hf.1
    exact ⟨_, nd, fun k m => of_decide_eq_true ((mem k).mpr m), by rw [List.length_map, Array.length_toList]; exact hn⟩) hn⟩
end
end L2

set_option Elab.async false
set_option linter.all false
set_option maxRecDepth 100000
set_option maxHeartbeats 2000000
/-! list(zip(xs, ys)) of two lists -/
namespace Zl
open PySem PySem.Calls PyProof.Rows PyProof.V PySem.Spec PySem.W
/-- the addresses as hold the pairs so far -/
structure PairsG (xs ys : Array Value) (lo : Addr) (h : Heap) (as : List Addr) : Prop where
  rise : as.Pairwise (· < ·)
  above : ∀ a ∈ as, lo < a
  pairs : ∀ (j : Nat) (a : Addr), as[j]? = some a → ∃ x y, xs[j]? = some x ∧ ys[j]? = some y ∧ IsPair h a x y
theorem PairsG.there {xs ys : Array Value} {lo : Addr} {h : Heap} {as : List Addr} (g : PairsG xs ys lo h as) {a : Addr} (ha : a ∈ as) : a < h.objs.size := by
  obtain ⟨j, hj⟩ := List.mem_iff_getElem?.mp ha
  obtain ⟨_, _, _, _, e⟩ := g.pairs j a hj
  exact Heap.lt_size e
/-- the zip under way, its list at S -/
def ZSt (z TI TO i1 i2 l1 l2 S : Addr) (xs ys : Array Value) (i : Nat) (h : Heap) : Prop :=
  IsPair h TI (.ref i1) (.ref i2) ∧ h.IsListIter i1 l1 i ∧ h.IsListIter i2 l2 i ∧ h.IsList l1 xs ∧ h.IsList l2 ys ∧
    ((IsZip h z TI TO .none ∧ ∃ a b, IsPair h TO a b) ∨ ∃ T f oT, IsZipHeld h z TI TO T f ∧ h.get? T = some oT ∧ T ≠ z ∧ T ≠ i1 ∧ T ≠ i2 ∧ T ≠ S)
structure Off (z TI TO i1 i2 l1 l2 S : Addr) : Prop where
  z : z < S
  TI : TI < S
  TO : TO < S
  i1 : i1 < S
  i2 : i2 < S
  l1 : l1 < S
  l2 : l2 < S
section
variable {prog : Program} {w : World} {A : Around} {E : Value → Shared → Prop} {s : Shared} {z TI TO i1 i2 l1 l2 S : Addr} {xs ys : Array Value}
theorem ZSt.push {h h' : Heap} {i : Nat} (O : Off z TI TO i1 i2 l1 l2 S) (st : ZSt z TI TO i1 i2 l1 l2 S xs ys i h) (hk : ∀ b o, b ≠ S → h.get? b = some o → h'.get? b = some o) : ZSt z TI TO i1 i2 l1 l2 S xs ys i h' := by
  obtain ⟨hTI, h1, h2, hl1, hl2, hz⟩ := st
  refine ⟨hk _ _ (Nat.ne_of_lt O.TI) hTI, h1.at fun o e => hk _ o (Nat.ne_of_lt O.i1) e, h2.at fun o e => hk _ o (Nat.ne_of_lt O.i2) e, hl1.at fun o e => hk _ o (Nat.ne_of_lt O.l1) e, hl2.at fun o e => hk _ o (Nat.ne_of_lt O.l2) e, ?_⟩
  rcases hz with ⟨hz, a, b, hTO⟩ | ⟨T, f, oT, hz, hT, r1, r2, r3, r4⟩
  · exact .inl ⟨hk _ _ (Nat.ne_of_lt O.z) hz, a, b, hk _ _ (Nat.ne_of_lt O.TO) hTO⟩
  · exact .inr ⟨T, f, oT, hk _ _ (Nat.ne_of_lt O.z) hz, hk _ _ r4 hT, r1, r2, r3, r4⟩
theorem zl_item {i : Nat} {x y : Value} {Q : Option Value → Shared → Prop} (D : ZipApart z TI TO i1 i2 l1 l2) (st : ZSt z TI TO i1 i2 l1 l2 S xs ys i s.heap) (hS : S < s.heap.objs.size) (hx : xs[i]? = some x) (hy : ys[i]? = some y)
    (hQ : ∀ h', ZSt z TI TO i1 i2 l1 l2 S xs ys (i + 1) h' → IsPair h' s.heap.objs.size x y → h'.objs.size = s.heap.objs.size + 1 → (∀ b o, b ≠ z → b ≠ TO → b ≠ i1 → b ≠ i2 → s.heap.get? b = some o → h'.get? b = some o) → Q (some (.ref s.heap.objs.size)) { s with heap := h' }) :
    wpAny (model prog w) A (pyNext (.ref z)) Q E s := by
  obtain ⟨hTI, h1, h2, hl1, hl2, hz⟩ := st
  have lt : ∀ {c o}, s.heap.get? c = some o → s.heap.objs.size ≠ c := fun e => Nat.ne_of_gt (Heap.lt_size e)
  have n1 : s.heap.objs.size ≠ i1 := let ⟨_, e, _⟩ := h1; lt e
  have n2 : s.heap.objs.size ≠ i2 := let ⟨_, e, _⟩ := h2; lt e
  rcases hz with ⟨hz, a, b, hTO⟩ | ⟨T, f, oT, hz, hT, r1, r2, r3, r4⟩
  · refine wpAny_pyNext_zip_item D hz hTI hTO h1 h2 hl1 hl2 hx hy fun h' a1 a2 a3 a4 a5 a6 hk => ?_
    exact hQ h' ⟨hk _ _ D.TIz D.TITO D.TIi1 D.TIi2 hTI, a3, a4, hl1.at fun o e => hk _ o D.l1z D.l1TO D.l1i1 D.l1i2 e, hl2.at fun o e => hk _ o D.l2z D.l2TO D.l2i1 D.l2i2 e,
      .inr ⟨s.heap.objs.size, false, _, a1, a5, lt hz, n1, n2, Nat.ne_of_gt hS⟩⟩ a5 a6 hk
  · refine wpAny_pyNext_zip_item_held D hz hT hTI h1 h2 hl1 hl2 hx hy fun h' a1 a3 a4 a5 a6 hk => ?_
    exact hQ h' ⟨hk _ _ D.TIz D.TIi1 D.TIi2 hTI, a3, a4, hl1.at fun o e => hk _ o D.l1z D.l1i1 D.l1i2 e, hl2.at fun o e => hk _ o D.l2z D.l2i1 D.l2i2 e,
      .inr ⟨T, true, oT, a1, hk _ _ r1 r2 r3 hT, r1, r2, r3, r4⟩⟩ a5 a6 fun b o c1 _ c3 c4 e => hk b o c1 c3 c4 e
theorem zl_done {i : Nat} {Q : Option Value → Shared → Prop} (hh : A.handled = none) (D : ZipApart z TI TO i1 i2 l1 l2) (st : ZSt z TI TO i1 i2 l1 l2 S xs ys i s.heap) (hend : xs[i]? = none ∨ ys[i]? = none)
    (hQ : ∀ h', (∀ b o, b ≠ z → b ≠ TO → b ≠ i1 → b ≠ i2 → s.heap.get? b = some o → h'.get? b = some o) → Q none { s with heap := h' }) :
    wpAny (model prog w) A (pyNext (.ref z)) Q E s := by
  obtain ⟨hTI, h1, h2, hl1, hl2, hz⟩ := st
  rcases hz with ⟨hz, a, b, hTO⟩ | ⟨T, f, oT, hz, hT, r1, r2, r3, r4⟩
  · exact wpAny_pyNext_zip_end hh D hz hTI hTO h1 h2 hl1 hl2 hend fun h' hk => hQ h' hk
  · exact wpAny_pyNext_zip_end_held hh D hz hT hTI h1 h2 hl1 hl2 hend fun h' hk => hQ h' fun b o c1 _ c3 c4 e => hk b o c1 c3 c4 e
end
section
variable {prog : Program} {w : World} {A : Around} {s : Shared} {R : Result → Shared → Prop} {z TI TO i1 i2 l1 l2 S : Addr} {xs ys : Array Value}
theorem zl_loop (hh : A.handled = none) (D : ZipApart z TI TO i1 i2 l1 l2) (O : Off z TI TO i1 i2 l1 l2 S) (hxy : xs.size = ys.size) (hn : xs.size ≤ sizeLine) (res : Value) {h₁ : Heap}
    (hR : ∀ h' tk acc c as, (∀ b o, b ≠ S → b ≠ z → b ≠ TO → b ≠ i1 → b ≠ i2 → h₁.get? b = some o → h'.get? b = some o) → h'.get? S = some { cls := .type "list", dict := none, data := .seq acc c, slots := #[] } → as.length = xs.size → PairsG xs ys S h' as →
      acc.toList = as.map Value.ref → R (.ok (.ret res)) { s with heap := h', toks := tk }) :
    ∀ (k i : Nat) (h : Heap) (tk c : Nat) (acc : Array Value) (as : List Addr), xs.size - i = k → i ≤ xs.size → ZSt z TI TO i1 i2 l1 l2 S xs ys i h → (∀ b o, b ≠ S → b ≠ z → b ≠ TO → b ≠ i1 → b ≠ i2 → h₁.get? b = some o → h.get? b = some o) →
      h.get? S = some { cls := .type "list", dict := none, data := .seq acc c, slots := #[] } → acc.toList = as.map Value.ref → as.length = i → PairsG xs ys S h as →
      codeAny (model prog w) A (.builtin "list.extend.loop" ⟨[.ref S, .ref z, res], []⟩) R { s with heap := h, toks := tk } := by
  intro k
  induction k with
  | zero =>
    intro i h tk c acc as hk hi hst hkeep hS hacc hal hG
    have hin : i = xs.size := by omega
    refine codeAny_builtin PySem.F.entry_extend_loop ?_
    rw [Around.under_plainId PySem.F.plain_extend_loop _]
    show wpAny _ A.in1 (pyNext (.ref z) >>= _) _ _ _
    refine wpAny_bind (zl_done (s := { s with heap := h, toks := tk }) (A := A.in1) hh D hst (.inl (Array.getElem?_eq_none (by omega))) fun h' he => ?_)
    refine wpAny_pure (hR h' tk acc c as (fun b o h0 h1 h2 h3 h4 e => he b o h1 h2 h3 h4 (hkeep b o h0 h1 h2 h3 h4 e)) (he S _ (Nat.ne_of_gt O.z) (Nat.ne_of_gt O.TO) (Nat.ne_of_gt O.i1) (Nat.ne_of_gt O.i2) hS) (by omega) ⟨hG.rise, hG.above, fun j a hj => ?_⟩ hacc)
    obtain ⟨x, y, e1, e2, e3⟩ := hG.pairs j a hj
    have ab := hG.above a (List.mem_of_getElem? hj)
    exact ⟨x, y, e1, e2, he a _ (Nat.ne_of_gt (Nat.lt_trans O.z ab)) (Nat.ne_of_gt (Nat.lt_trans O.TO ab)) (Nat.ne_of_gt (Nat.lt_trans O.i1 ab)) (Nat.ne_of_gt (Nat.lt_trans O.i2 ab)) e3⟩
  | succ k ih =>
    intro i h tk c acc as hk hi hst hkeep hS hacc hal hG
    have hlt : i < xs.size := by omega
    have hlt2 : i < ys.size := by omega
    have hsz : acc.size = i := by rw [← Array.length_toList, hacc, List.length_map, hal]
    refine codeAny_builtin PySem.F.entry_extend_loop ?_
    rw [Around.under_plainId PySem.F.plain_extend_loop _]
    show wpAny _ A.in1 (pyNext (.ref z) >>= _) _ _ _
    have hSl : S < h.objs.size := Heap.lt_size hS
    refine wpAny_bind (zl_item (s := { s with heap := h, toks := tk }) D hst hSl (Array.getElem?_eq_getElem hlt) (Array.getElem?_eq_getElem hlt2) fun h' hst' ht hz hkp => ?_)
    dsimp only at ht hz hkp ⊢
    have hS' := hkp S _ (Nat.ne_of_gt O.z) (Nat.ne_of_gt O.TO) (Nat.ne_of_gt O.i1) (Nat.ne_of_gt O.i2) hS
    have up : ∀ b o, b ≠ S → h'.get? b = some o → (h'.update S (Obj.mapSeq (·.push (Value.ref h.objs.size)))).get? b = some o := fun b o hb e => (Heap.get?_update_other _ _ (Ne.symm hb)).trans e
    show wpAny _ A.in1 (updateSeq S (·.push (Value.ref h.objs.size)) >>= _) _ _ _
    refine wpAny_bind ?_
    refine wpAny_updateSeq hS' rfl (wpAny_pure ⟨plainId_quiet PySem.F.plain_extend_loop _, ih (i + 1) _ tk _ (acc.push (Value.ref h.objs.size)) (as ++ [h.objs.size]) (by omega) hlt (hst'.push O up)
      (fun b o h0 h1 h2 h3 h4 e => up b o h0 (hkp b o h1 h2 h3 h4 (hkeep b o h0 h1 h2 h3 h4 e))) (Heap.get?_update_self _ hS' rfl) (by rw [Array.toList_push, hacc, List.map_append]; rfl) (by rw [List.length_append, hal]; rfl) ⟨?_, ?_, ?_⟩⟩) (by rw [hsz]; omega) (by show (acc.push (Value.ref h.objs.size)).size ≤ sizeLine + 1; rw [Array.size_push, hsz]; omega)
    · refine List.pairwise_append.mpr ⟨hG.rise, List.pairwise_singleton _ _, fun a ha b hb => ?_⟩
      rw [List.mem_singleton.mp hb]
      exact hG.there ha
    · intro a ha
      rcases List.mem_append.mp ha with ha | ha
      · exact hG.above a ha
      · rw [List.mem_singleton.mp ha]; exact hSl
    · intro j b hj
      rcases Nat.lt_trichotomy j as.length with h1 | h1 | h1
      · rw [List.getElem?_append_left h1] at hj
        obtain ⟨x, y, e1, e2, e3⟩ := hG.pairs j b hj
        have ab := hG.above b (List.mem_of_getElem? hj)
        exact ⟨x, y, e1, e2, up b _ (Nat.ne_of_gt ab) (hkp b _ (Nat.ne_of_gt (Nat.lt_trans O.z ab)) (Nat.ne_of_gt (Nat.lt_trans O.TO ab)) (Nat.ne_of_gt (Nat.lt_trans O.i1 ab)) (Nat.ne_of_gt (Nat.lt_trans O.i2 ab)) e3)⟩
      · subst h1
        have hb : h.objs.size = b := by simpa using hj
        subst hb
        subst hal
        exact ⟨_, _, Array.getElem?_eq_getElem hlt, Array.getElem?_eq_getElem hlt2, up _ _ (Nat.ne_of_gt hSl) ht⟩
      · have hnone : (as ++ [h.objs.size])[j]? = none := List.getElem?_eq_none (by rw [List.length_append, List.length_singleton]; omega)
        rw [hnone] at hj; cases hj
end
theorem zip_no_len : typeLookup (.type "zip") "__len__" = pure none := by rw [typeLookup_type, builtinLookup_eq_fast]; kernel_rfl
theorem zip_no_hint : typeLookup (.type "zip") "__length_hint__" = pure none := by rw [typeLookup_type, builtinLookup_eq_fast]; kernel_rfl
section
variable {prog : Program} {w : World} {A : Around} {E : Value → Shared → Prop} {s : Shared} {z TI TO i1 i2 l1 l2 : Addr} {xs ys : Array Value}
theorem zl_extend {R : Result → Shared → Prop} (hh : A.handled = none) (S : Addr) (D : ZipApart z TI TO i1 i2 l1 l2) (O : Off z TI TO i1 i2 l1 l2 S) (hxy : xs.size = ys.size) (hn : xs.size ≤ sizeLine) (hst : ZSt z TI TO i1 i2 l1 l2 S xs ys 0 s.heap) (hzz : IsZip s.heap z TI TO .none) (res : Value) (c₀ : Nat) (hS : s.heap.get? S = some { cls := .type "list", data := .seq #[] c₀ })
    (hR : ∀ h' tk acc c as, (∀ b o, b ≠ S → b ≠ z → b ≠ TO → b ≠ i1 → b ≠ i2 → s.heap.get? b = some o → h'.get? b = some o) → h'.get? S = some { cls := .type "list", dict := none, data := .seq acc c, slots := #[] } → as.length = xs.size → PairsG xs ys S h' as →
      acc.toList = as.map Value.ref → R (.ok (.ret res)) { s with heap := h', toks := tk }) :
    wpAny (model prog w) A.in1 (Builtin.List.listExtendWith (.ref S) (.ref z) res)
      (fun fin s' => match fin with | .done f => R (.ok f) s' | .again c' => c'.quiet = true ∧ codeAny (model prog w) A c' R s') (fun e s' => R (.error e) s') s := by
  have hT : s.TypeIs (.ref z) "zip" := ⟨_, hzz, rfl⟩
  have hSz : S ≠ z := Nat.ne_of_gt O.z
  unfold Builtin.List.listExtendWith
  refine wpAny_bind (wpAny_typeOf hT ?_)
  have h1 : Builtin.List.listSameRef (.ref S) (.ref z) = false := by simp [Builtin.List.listSameRef, hSz]
  have h2 : (Value.type "zip" == Value.type "list") = false := by decide
  have h3 : (Value.type "zip" == Value.type "tuple") = false := by decide
  simp only [h1, h2, h3, Bool.or_false, Bool.false_eq_true, if_false]
  refine wpAny_bind (wpAny_pyIter_zip hzz ?_)
  refine wpAny_bind (wpAny_holding ?_)
  unfold Builtin.List.listLengthHint
  refine wpAny_bind (wpAny_specialOf hT zip_no_len ?_)
  show wpAny _ A.in1 (specialOf (Value.ref z) (Str.ofString "__length_hint__") >>= _) _ _ _
  refine wpAny_bind (wpAny_specialOf hT zip_no_hint ?_)
  refine wpAny_pure ?_
  show wpAny _ A.in1 (rule "list.extend.makes-room" >>= fun _ => Builtin.List.listTouch (.ref S) >>= fun _ =>
    again (.builtin "list.extend.loop" ⟨[.ref S, .ref z, res], []⟩)) _ _ _
  refine wpAny_bind (wpAny_rule ?_)
  refine wpAny_bind ?_
  show wpAny _ A.in1 (updateSeq S (·.push .none) >>= fun _ => updateSeq S (·.pop)) _ _ _
  refine wpAny_bind (wpAny_updateSeq hS rfl ?_)
  have hS₂ := Heap.get?_update_self (Obj.mapSeq (·.push Value.none)) hS rfl
  refine wpAny_updateSeq (hz := by seq_fits) hS₂ rfl ?_
  have hS₃ := Heap.get?_update_self (Obj.mapSeq (·.pop)) hS₂ rfl
  have oth : ∀ b o, b ≠ S → s.heap.get? b = some o → ((s.heap.update S (Obj.mapSeq (·.push Value.none))).update S (Obj.mapSeq (·.pop))).get? b = some o :=
    fun b o hb e => (Heap.get?_update_other _ _ (Ne.symm hb)).trans ((Heap.get?_update_other _ _ (Ne.symm hb)).trans e)
  refine wpAny_pure ⟨plainId_quiet F.plain_extend_loop _, zl_loop (s := s) (h₁ := s.heap) hh D O hxy hn res hR (xs.size - 0) 0 _ _ _ _ [] rfl (Nat.zero_le _) (hst.push O oth) (fun b o h0 _ _ _ _ e => oth b o h0 e) hS₃ rfl rfl ⟨.nil, by simp, fun j a h => by simp at h⟩⟩
theorem zl_call {Q : Value → Shared → Prop} (hh : A.handled = none) (D : ZipApart z TI TO i1 i2 l1 l2) (hlt : z < s.heap.objs.size ∧ TI < s.heap.objs.size ∧ TO < s.heap.objs.size ∧ i1 < s.heap.objs.size ∧ i2 < s.heap.objs.size ∧ l1 < s.heap.objs.size ∧ l2 < s.heap.objs.size) (hxy : xs.size = ys.size) (hn : xs.size ≤ sizeLine)
    (hTI : IsPair s.heap TI (.ref i1) (.ref i2)) (h1 : s.heap.IsListIter i1 l1 0) (h2 : s.heap.IsListIter i2 l2 0) (hl1 : s.heap.IsList l1 xs) (hl2 : s.heap.IsList l2 ys) (hz : IsZip s.heap z TI TO .none) (hTO : ∃ a b, IsPair s.heap TO a b)
    (hQ : ∀ h' tk acc c as, (∀ b o, b ≠ z → b ≠ TO → b ≠ i1 → b ≠ i2 → s.heap.get? b = some o → h'.get? b = some o) → h'.get? s.heap.objs.size = some { cls := .type "list", dict := none, data := .seq acc c, slots := #[] } → as.length = xs.size → PairsG xs ys s.heap.objs.size h' as →
      acc.toList = as.map Value.ref → Q (.ref s.heap.objs.size) { s with heap := h', toks := tk }) :
    wpAny (model prog w) A (call (.type "list") [.ref z]) Q E s := by
  refine callType_codes (Q₁ := fun obj s₁ => obj = .ref s.heap.objs.size ∧ s₁ = { s with heap := s.heap.push { cls := .type "list", data := .seq #[] } }) PySem.F.called_list (PySem.F.typeCall_list_1 _) PySem.F.entry_list_init
    (code_list_new _ ⟨rfl, rfl⟩) fun obj s₁ h₁ => ?_
  obtain ⟨rfl, rfl⟩ := h₁
  have hS : (s.heap.push { cls := .type "list", data := .seq #[] }).get? s.heap.objs.size = some { cls := .type "list", data := .seq #[] } := Heap.get?_push_size _ rfl
  obtain ⟨g1, g2, g3, g4, g5, g6, g7⟩ := hlt
  have O : Off z TI TO i1 i2 l1 l2 s.heap.objs.size := ⟨g1, g2, g3, g4, g5, g6, g7⟩
  have up : ∀ b o, s.heap.get? b = some o → (s.heap.push { cls := .type "list", data := .seq #[] }).get? b = some o := fun b o e => Heap.get?_push_of_some _ e
  have hst : ZSt z TI TO i1 i2 l1 l2 s.heap.objs.size xs ys 0 s.heap := ⟨hTI, h1, h2, hl1, hl2, .inl ⟨hz, hTO⟩⟩
  refine ⟨⟨_, hS, rfl⟩, PySem.F.args_list_init_2 _ _, ?_⟩
  show wpAny _ _ (do let old ← Builtin.List.listItems (.ref s.heap.objs.size); Builtin.List.listUpdate (.ref s.heap.objs.size) (fun _ => #[]); letGo old.toList.reverse; Builtin.List.listExtendWith (.ref s.heap.objs.size) (.ref z) .none) _ _ _
  refine wpAny_bind ?_
  unfold Builtin.List.listItems
  refine wpAny_bind (wpAny_seqItems hS rfl (wpAny_pure ?_))
  show wpAny _ _ (updateSeq s.heap.objs.size (fun _ => #[]) >>= fun _ => letGo (#[] : Array Value).toList.reverse >>= fun _ => Builtin.List.listExtendWith (.ref s.heap.objs.size) (.ref z) .none) _ _ _
  refine wpAny_bind (wpAny_updateSeq hS rfl ?_)
  have hS₂ := Heap.get?_update_self (Obj.mapSeq (fun _ => (#[] : Array Value))) hS rfl
  have oth : ∀ b o, b ≠ s.heap.objs.size → s.heap.get? b = some o → ((s.heap.push { cls := .type "list", data := .seq #[] }).update s.heap.objs.size (Obj.mapSeq (fun _ => (#[] : Array Value)))).get? b = some o :=
    fun b o hb e => (Heap.get?_update_other _ _ (Ne.symm hb)).trans (up b o e)
  refine wpAny_bind (wpAny_letGo ?_)
  refine zl_extend (A := A.in1) hh _ D O hxy hn (hst.push O oth) (oth _ _ (Nat.ne_of_lt g1) hz) .none _ hS₂ fun h' tk acc c as hk hS' hl hG hacc => ?_
  exact ⟨rfl, hQ h' tk acc c as (fun b o b1 b2 b3 b4 e => hk b o (Nat.ne_of_lt (Heap.lt_size e)) b1 b2 b3 b4 (oth b o (Nat.ne_of_lt (Heap.lt_size e)) e)) hS' hl hG hacc⟩
end
end Zl
namespace L2
open PySem PySem.Spec PyProof.Rows
def putP : Hp → List Addr → List V → List V → Hp
  | H, a :: as, x :: xs, y :: ys => putP (upd H a (.tup [x, y])) as xs ys
  | H, _, _, _ => H
theorem putP_off {b : Addr} : ∀ (as : List Addr) (xs ys : List V) (H : Hp), b ∉ as → putP H as xs ys b = H b
  | [], _, _, _, _ => rfl
  | _ :: _, [], _, _, _ => rfl
  | _ :: _, _ :: _, [], _, _ => rfl
  | a :: as, x :: xs, y :: ys, H, h => by
    show putP (upd H a (.tup [x, y])) as xs ys b = H b
    rw [putP_off as xs ys _ (fun z => h (List.mem_cons_of_mem _ z)), upd_ne (fun z => h (by rw [z]; exact List.mem_cons_self))]
theorem putP_at : ∀ (as : List Addr) (xs ys : List V) (H : Hp), as.length = xs.length → xs.length = ys.length → as.Nodup → ∀ (j : Nat) t, as[j]? = some t → ∃ x y, xs[j]? = some x ∧ ys[j]? = some y ∧ putP H as xs ys t = some (.tup [x, y])
  | [], _, _, _, _, _, _, _, _, h => by simp at h
  | _ :: _, [], _, _, h, _, _, _, _, _ => by simp at h
  | _ :: _, _ :: _, [], _, _, h, _, _, _, _ => by simp at h
  | a :: as, x :: xs, y :: ys, H, h1, h2, hn, j, t, ht => by
    have hn' := List.nodup_cons.mp hn
    cases j with
    | zero =>
      simp at ht; subst ht
      refine ⟨x, y, rfl, rfl, ?_⟩
      show putP (upd H a (.tup [x, y])) as xs ys a = _
      rw [putP_off as xs ys _ hn'.1, upd_same]
    | succ j =>
      obtain ⟨x', y', e1, e2, e3⟩ := putP_at as xs ys (upd H a (.tup [x, y])) (Nat.succ.inj h1) (Nat.succ.inj h2) hn'.2 j t (by simpa using ht)
      exact ⟨x', y', by simpa using e1, by simpa using e2, e3⟩
def tListZip (K : PySem.W.Frag) (ta : TA) : TE := fun σ H Q => ta σ H fun vs H1 => ∃ a b xs ys, vs = [V.ref a, .ref b] ∧ SqL K H1 a xs ∧ SqL K H1 b ys ∧ xs.length = ys.length ∧
  ∀ (p : Addr) (ts : List Addr) (H2 : Hp), Same H1 H2 → H1 p = none → H2 p = some (.lst (ts.map V.ref)) → ts.length = xs.length → (∀ (j : Nat) t, ts[j]? = some t → ∃ x y, xs[j]? = some x ∧ ys[j]? = some y ∧ H2 t = some (.tup [x, y])) → Q (.ref p) H2
section
variable {X : Cx}
theorem zip_laid {pins : List (Addr × Obj)} {σ : L2.St} {H : Hp} {s : Shared} {h' : Heap} {tk S : Nat} {xs ys : List V} {us ws : List Value} {acc : Array Value} {c : Nat} {as : List Addr} (I : Inv X pins σ H s) (hz : xs.length ≤ sizeLine) (hxy : xs.length = ys.length) (rx : Vals xs us) (ry : Vals ys ws) (hSS : s.heap.objs.size ≤ S)
    (hk : ∀ b o, s.heap.get? b = some o → h'.get? b = some o) (hS : h'.get? S = some { cls := .type "list", dict := none, data := .seq acc c, slots := #[] }) (hl : as.length = xs.length) (hG : Zl.PairsG us.toArray ws.toArray S h' as) (hacc : acc.toList = as.map Value.ref) :
    ∃ H' : Hp, Same H H' ∧ H S = none ∧ H' S = some (.lst (as.map V.ref)) ∧ (∀ (j : Nat) t, as[j]? = some t → ∃ x y, xs[j]? = some x ∧ ys[j]? = some y ∧ H' t = some (.tup [x, y])) ∧ Inv X pins σ H' { s with heap := h', toks := tk } := by
  have hSn : S ∉ as := fun z => Nat.lt_irrefl _ (hG.above _ z)
  have nd : as.Nodup := List.Pairwise.imp (fun {a b} (h : a < b) => Nat.ne_of_lt h) hG.rise
  have new : ∀ t ∈ as, H t = none := fun t ht => I.hok.fresh (Nat.le_trans hSS (Nat.le_of_lt (hG.above t ht)))
  have newS : H S = none := I.hok.fresh hSS
  have atP := putP_at as xs ys (upd H S (.lst (as.map V.ref))) hl hxy nd
  have off : ∀ b, b ∉ as → b ≠ S → putP (upd H S (.lst (as.map V.ref))) as xs ys b = H b := fun b h1 h2 => by rw [putP_off as xs ys _ h1, upd_ne h2]
  have low : ∀ b o, s.heap.get? b = some o → b ∉ as ∧ b ≠ S := fun b o e => ⟨fun z => absurd (Heap.lt_size e) (Nat.not_lt.mpr (Nat.le_trans hSS (Nat.le_of_lt (hG.above b z)))), Nat.ne_of_lt (Nat.lt_of_lt_of_le (Heap.lt_size e) hSS)⟩
  have kp : ∀ b u, H b = some u → (putP (upd H S (.lst (as.map V.ref))) as xs ys) b = some u := fun b u e => by
    rw [off b (fun z => by rw [new b z] at e; cases e) (fun z => by rw [z, newS] at e; cases e)]
    exact e
  have eS : putP (upd H S (.lst (as.map V.ref))) as xs ys S = some (.lst (as.map V.ref)) := by rw [putP_off as xs ys _ hSn, upd_same]
  refine ⟨putP (upd H S (.lst (as.map V.ref))) as xs ys, kp, newS, eS, atP, ?_⟩
  refine I.call' (ch := []) rfl ⟨fun b o q _ _ _ => hk b o q, fun b o q _ _ _ => ⟨o.slots, hk b o q⟩, fun b o q n _ => ?_, fun b o q _ => ⟨o, hk b o q⟩, fun b xs q => kp b _ q, fun b o u q => kp b _ q, fun b ps q => ⟨#[], by rw [kp b _ q]; simp⟩⟩ (fun b u q => ?_) I.bare fun b z => by simp at z
  · obtain ⟨z1, z2⟩ := low b o q
    rw [off b z1 z2]
    exact n
  · by_cases hb : b ∈ as
    · obtain ⟨j, e1⟩ := List.mem_iff_getElem?.mp hb
      obtain ⟨x, y, e2, e3, e4⟩ := atP j b e1
      rw [e4] at q
      cases q
      obtain ⟨u1, u2, f1, f2, f3⟩ := hG.pairs j b e1
      obtain ⟨v1, g1, g2⟩ := rx.get e2
      obtain ⟨v2, g3, g4⟩ := ry.get e3
      have f1 : us[j]? = some u1 := by simpa using f1
      have f2 : ws[j]? = some u2 := by simpa using f2
      rw [g1] at f1; cases f1
      rw [g3] at f2; cases f2
      exact ⟨by show 2 ≤ sizeLine; decide, [u1, u2], .cons g2 (.cons g4 .nil), ⟨_, f3, rfl, _, rfl⟩⟩
    · by_cases hb2 : b = S
      · rw [hb2] at q ⊢
        rw [eS] at q
        cases q
        refine ⟨by rw [List.length_map]; omega, acc.toList, c, by rw [hacc]; exact LiI.vals_refs as, ?_⟩
        rw [Array.toArray_toList]
        exact hS
      · rw [off b hb hb2] at q
        exact (I.hok b u q).stay (fun d v _ y => hk d v y) (fun d y => kp d _ y) fun d xs y => kp d _ y
theorem pe_listZip {e e2 : Expr} {ta : TA} {p p2 q pos : Pos} (hc : X.calm = true) (hg : Gl X "list") (hm : X.mg "list" = none) (hv : bootBuiltins "list" = some (.type "list")) (hg2 : Gl X "zip") (hm2 : X.mg "zip" = none) (ha : PA X [e, e2] ta)
    (hs : starEach [e, e2] X.env = (false, eval e X.env) :: starEach [e2] X.env := by rfl) (hpl : (backTo q (starEach [e2] X.env)).any (·.1) = false := by rfl) :
    PE X (.Call (.Name "list" p) [.Call (.Name "zip" p2) [e, e2] [] q] [] pos) (tListZip X.K ta) := by
  refine ⟨fun pins s σ H Q I h => ?_⟩
  refine Call_ (ld_blt I hg hm hv ?_)
  refine PyProof.Rows.callWith_type1 (PyProof.Rows.args_cons ?_ rfl) rfl rfl
  refine Call_ (ld_blt I hg2 hm2 PyProof.Rows.boot_zip (PyProof.Rows.callWith_type1 (thn (ha.run q pins s σ H _ I h) fun us s1 ⟨vs, H1, I1, r1, q1⟩ => ?_) hs hpl))
  obtain ⟨a, b, xs, ys, ex, hqx, hqy, hxy, q1⟩ := q1
  subst ex
  cases r1 with
  | cons r rr =>
    cases rr with
    | cons r' rr =>
      cases rr
      cases r
      cases r'
      obtain ⟨its, rv, p1, hz1⟩ := I1.list hqx
      obtain ⟨its2, rv2, pp2, hz2⟩ := I1.list hqy
      have ln1 : xs.length = its.length := rv.length
      have ln2 : ys.length = its2.length := rv2.length
      refine call_zip_2 p1.isList pp2.isList fun h' hz hTI hTO h1 h2 hsz hk => PyProof.Rows.args_nil ?_
      have D := PySem.W.ktu_apart s1.heap.objs.size a b p1.lt pp2.lt
      have la := p1.lt
      have lb := pp2.lt
      refine Zl.zl_call (s := { s1 with heap := h' }) (I1.ok.hd hc) D ?_ (by simp; omega) (by simp; omega) hTI h1 h2 (p1.isList.at fun o e => hk _ o e) (pp2.isList.at fun o e => hk _ o e) hz ⟨_, _, hTO⟩ fun h2' tk acc c as hk2 hS hl hG hacc => ?_
      · have up : ∀ k : Nat, k < s1.heap.objs.size + 5 → k < h'.objs.size := fun k hk => by rw [hsz]; exact hk
        exact ⟨up _ (Nat.add_lt_add_left (by decide) _), up _ (Nat.add_lt_add_left (by decide) _), up _ (Nat.add_lt_add_left (by decide) _), up _ (Nat.lt_add_of_pos_right (by decide)), up _ (Nat.add_lt_add_left (by decide) _), up _ (Nat.lt_add_right _ la), up _ (Nat.lt_add_right _ lb)⟩
      · have hS5 : s1.heap.objs.size ≤ h'.objs.size := by omega
        obtain ⟨H', k1, k2, k3, k4, J⟩ := zip_laid (tk := tk) (S := h'.objs.size) I1 hz1 hxy rv rv2 hS5 (fun b o e => hk2 b o (Nat.ne_of_lt (Nat.lt_add_right _ (Heap.lt_size e))) (Nat.ne_of_lt (Nat.lt_add_right _ (Heap.lt_size e))) (Nat.ne_of_lt (Heap.lt_size e)) (Nat.ne_of_lt (Nat.lt_add_right _ (Heap.lt_size e))) (hk b o e)) hS (by rw [hl]; simp; omega) hG hacc
        exact ⟨.ref _, H', J, rfl, q1 _ as H' k1 k2 k3 (by rw [hl]; simp; omega) k4⟩
end
end L2

set_option Elab.async false
set_option linter.all false
set_option maxRecDepth 100000
namespace L2
open PySem PySem.Spec PyProof.Rows
/-! list + list of lists that are read -/
def rCatQ (K : PySem.W.Frag) : R2 := fun x y H Q => ∃ l b xs zs, x = .ref l ∧ y = .ref b ∧ SqL K H l xs ∧ SqL K H b zs ∧ xs.length + zs.length ≤ sizeLine ∧ ∀ p, H p = none → Q (.ref p) (upd H p (.lst (xs ++ zs)))
theorem op_catQ {X : Cx} : OpR X (binaryOp .Add) (rCatQ X.K) := by
  intro pins s σ H x y v u Q I rx ry h
  obtain ⟨l, b, xs, zs, rfl, rfl, hH, hB, hz, q⟩ := h
  cases rx
  cases ry
  obtain ⟨its, r, pl, z⟩ := I.list hH
  obtain ⟨its2, r2, pl2, z2⟩ := I.list hB
  have hl := r.length
  have hl2 := r2.length
  obtain ⟨⟨cls, dd, data, sl⟩, ho, hc, n, hd⟩ := pl.isList
  obtain ⟨⟨cls2, dd2, data2, sl2⟩, ho2, hc2, n2, hd2⟩ := pl2.isList
  simp only at hc hd hc2 hd2
  subst hc hd hc2 hd2
  refine concat_meets ⟨_, ho, rfl⟩ ⟨_, ho2, rfl⟩ noFill_list_add seq_list_add PySem.F.slot_list_add PySem.F.entry_list_add (PySem.F.args_list_add_2 _ _) (list_addW l b its.toArray its2.toArray n n2 dd dd2 sl sl2 (by simp; omega)) ⟨ho, ho2, ?_⟩
  have ea : its.toArray ++ its2.toArray = (its ++ its2).toArray := by simp
  rw [ea]
  exact ⟨.ref _, _, I.lnew (t' := s.toks) (r.append r2) (by rw [List.length_append]; omega), rfl, q _ I.fresh⟩
end L2
namespace Rd
open PySem PySem.Spec PyProof.Rows L2
variable {K : PySem.W.Frag} {σ : L2.St} {H : Hp} {D : Ends} {Q : VK} {ta tb te tv : TE} {x y v : V} {tr : TA}
def CatQ (K : PySem.W.Frag) (Q : VK) (x y : V) (H : Hp) : Prop := rCatQ K x y H Q
theorem catQI (h : CatQ K Q x y H) : rCatQ K x y H Q := h
theorem catQ {a b : Addr} {xs zs : List V} (h1 : SqL K H a xs) (h2 : SqL K H b zs) (s : xs.length + zs.length ≤ 100000) (h : ∀ p H', H p = none → Same H H' → H' p = some (.lst (xs ++ zs)) → Q (.ref p) H') : CatQ K Q (.ref a) (.ref b) H := ⟨a, b, xs, zs, rfl, rfl, h1, h2, sz s, fun p np => h p _ np (same_new np) upd_same⟩
def RevL (K : PySem.W.Frag) (Q : VK) (x : V) (H : Hp) : Prop := ∃ a xs, x = .ref a ∧ SqL K H a xs ∧ ∀ p, H p = none → Q (.ref p) (upd H p (.lst xs.reverse))
theorem revN (h : te σ H (RevL K Q)) : tRevL K te σ H Q := h
theorem revq {a : Addr} {xs : List V} (s : SqL K H a xs) (h : ∀ p H', H p = none → Same H H' → H' p = some (.lst xs.reverse) → Q (.ref p) H') : RevL K Q (.ref a) H := ⟨a, xs, rfl, s, fun p np => h p _ np (same_new np) upd_same⟩
theorem ext {l b : Addr} {xs zs : List V} (h : H l = some (.lst xs)) (hb : H b = some (.lst zs)) (s : xs.length + zs.length ≤ 100000) (q : Q .non (upd H l (.lst (xs ++ zs)))) : rExtend (.ref l) [.ref b] H Q := ⟨l, b, xs, zs, rfl, rfl, h, hb, sz s, q⟩
def LzG (K : PySem.W.Frag) (Q : VK) (vs : List V) (H1 : Hp) : Prop := ∃ a b xs ys, vs = [V.ref a, .ref b] ∧ SqL K H1 a xs ∧ SqL K H1 b ys ∧ xs.length = ys.length ∧
  ∀ (p : Addr) (ts : List Addr) (H2 : Hp), Same H1 H2 → H1 p = none → H2 p = some (.lst (ts.map V.ref)) → ts.length = xs.length → (∀ (j : Nat) t, ts[j]? = some t → ∃ x y, xs[j]? = some x ∧ ys[j]? = some y ∧ H2 t = some (.tup [x, y])) → Q (.ref p) H2
theorem lzip (h : tr σ H (LzG K Q)) : tListZip K tr σ H Q := h
theorem lz {a b : Addr} {xs ys : List V} (h1 : SqL K H a xs) (h2 : SqL K H b ys) (l : xs.length = ys.length) (q : ∀ (p : Addr) (ts : List Addr) (H2 : Hp), Same H H2 → H p = none → H2 p = some (.lst (ts.map V.ref)) → ts.length = xs.length → (∀ (j : Nat) t, ts[j]? = some t → ∃ x y, xs[j]? = some x ∧ ys[j]? = some y ∧ H2 t = some (.tup [x, y])) → Q (.ref p) H2) : LzG K Q [.ref a, .ref b] H := ⟨a, b, xs, ys, rfl, h1, h2, l, q⟩
end Rd
namespace L2
open PySem PySem.Spec PyProof.Rows
/-- (n1, n2) > (m1, m2) -/
def rGtP (K : PySem.W.Frag) : R2 := fun x y H Q => ∃ (a b : Addr) (n1 n2 m1 m2 : Int), x = .ref a ∧ y = .ref b ∧ SqT K H a [.int n1, .int n2] ∧ SqT K H b [.int m1, .int m2] ∧ Q (.bl (decide (m1 < n1 ∨ (n1 = m1 ∧ m2 < n2)))) H
theorem op_gtP {X : Cx} (hu : X.A.units < cLine) : OpR X (compareOp .Gt) (rGtP X.K) := by
  intro pins s σ H x y v u Q I rx ry h
  obtain ⟨a, b, n1, n2, m1, m2, rfl, rfl, ha, hb, q⟩ := h
  cases rx
  cases ry
  obtain ⟨its, r1, p1, _⟩ := I.tuple ha
  obtain ⟨its2, r2, p2, _⟩ := I.tuple hb
  have i1 : IntsAre its [n1, n2] := Vals.ints (ns := [n1, n2]) r1
  have i2 : IntsAre its2 [m1, m2] := Vals.ints (ns := [m1, m2]) r2
  have e1 : its.toArray.size = 2 := by rw [List.size_toArray]; exact i1.length
  have e2 : its2.toArray.size = 2 := by rw [List.size_toArray]; exact i2.length
  have at1 : ∀ j (h1 : j < its.toArray.size), ∃ t, its.toArray[j] = .int ([n1, n2].getD j 0) t := fun j h1 => PyProof.Rows.IntsAre.int_at i1 _ _ (by simp at h1; simp [h1])
  have at2 : ∀ j (h1 : j < its2.toArray.size), ∃ t, its2.toArray[j] = .int ([m1, m2].getD j 0) t := fun j h1 => PyProof.Rows.IntsAre.int_at i2 _ _ (by simp at h1; simp [h1])
  have R := Ob.RcOp.tuples_gt (A := X.A) (s := s) (e := fun j => decide ([n1, n2].getD j 0 = [m1, m2].getD j 0)) (r := fun j => decide ([m1, m2].getD j 0 < [n1, n2].getD j 0)) p1 p2 hu (fun j h1 h2 => by
    obtain ⟨t, et⟩ := at1 j h1
    obtain ⟨t', et'⟩ := at2 j h2
    rw [et, et']
    have z : ([n1, n2].getD j 0 == [m1, m2].getD j 0) = decide ([n1, n2].getD j 0 = [m1, m2].getD j 0) := by
      by_cases q : [n1, n2].getD j 0 = [m1, m2].getD j 0
      · rw [decide_eq_true q]; exact beq_iff_eq.mpr q
      · rw [decide_eq_false q]; exact beq_eq_false_iff_ne.mpr q
    rw [← z]
    exact SeqAt.EqAt.int_int _ _ _ _) (fun j h1 h2 _ => by
    obtain ⟨t, et⟩ := at1 j h1
    obtain ⟨t', et'⟩ := at2 j h2
    rw [et, et']
    exact Ob.RcOp.gt_int _ _ _ _)
  rw [e1, e2] at R
  have ev : Ob.lexAt (fun j => decide ([n1, n2].getD j 0 = [m1, m2].getD j 0)) (fun j => decide ([m1, m2].getD j 0 < [n1, n2].getD j 0)) (decide (2 > 2)) 0 (min 2 2) = decide (m1 < n1 ∨ (n1 = m1 ∧ m2 < n2)) := by
    show Ob.lexAt _ _ _ 0 2 = _
    rw [Ob.lexAt_succ, Ob.lexAt_succ, Ob.lexAt_zero]
    show (if decide (n1 = m1) = true then (if decide (n2 = m2) = true then decide (2 > 2) else decide (m2 < n2)) else decide (m1 < n1)) = _
    by_cases h1 : n1 = m1
    · rw [if_pos (decide_eq_true h1)]
      by_cases h2 : n2 = m2
      · rw [if_pos (decide_eq_true h2)]
        exact (decide_eq_false (by omega)).trans (decide_eq_false (by omega)).symm
      · rw [if_neg (by simp [h2])]
        exact decide_eq_decide.mpr (by omega)
    · rw [if_neg (by simp [h1])]
      exact decide_eq_decide.mpr (by omega)
  exact R _ _ _ _ ⟨.bl _, H, I, rfl, by rw [ev]; exact q⟩
end L2
namespace Rd
open PySem PySem.Spec PyProof.Rows L2
theorem gtP {K : PySem.W.Frag} {H : Hp} {Q : VK} {a b : Addr} {n1 n2 m1 m2 : Int} (h1 : H a = some (.tup [.int n1, .int n2])) (h2 : H b = some (.tup [.int m1, .int m2])) (q : Q (.bl (decide (m1 < n1 ∨ (n1 = m1 ∧ m2 < n2)))) H) : rGtP K (.ref a) (.ref b) H Q := ⟨a, b, n1, n2, m1, m2, rfl, rfl, SqT.of h1, SqT.of h2, q⟩
theorem glst {K : PySem.W.Frag} {H : Hp} {σ : L2.St} {p : Addr} {xs : List V} {n : Nat} {f : TGs} {Q : L2.St → Hp → Prop} (h : H p = some (.lst xs)) (l : xs.length = n) (q : f xs σ H Q) : gLst K n f (.ref p) σ H Q := ⟨p, xs, rfl, SqL.of h, l, q⟩
end Rd
namespace Rd
open PySem PySem.Spec PyProof.Rows L2
theorem revR1 {te : TE} {σ : L2.St} {H : Hp} {R : It → Hp → Prop} (h : te σ H fun x H1 => ∃ n, x = .int n ∧ (-(2 ^ 62) ≤ (0 : Int) ∧ (0 : Int) < 2 ^ 62 ∧ -(2 ^ 62) ≤ n ∧ n < 2 ^ 62 ∧ R (Itc ((0 : Int) + (((n - 0).toNat : Nat) : Int) - 1) (-1) (n - 0).toNat) H1)) : iRevR (tRg1 te) σ H R := h
end Rd

set_option Elab.async false
set_option linter.all false
set_option maxRecDepth 100000
set_option maxHeartbeats 2000000
/-! a law whose own body shows data by repr: its promise knows that nothing is being shown around it -/
namespace L2
open PySem PySem.Spec PyProof.Rows
/-- as FnOk, where no object is under way in a repr -/
structure FnG (P : Program) (w : World) (K : PySem.W.Frag) (mg : Str → Option Value) (base : Heap) (k : Nat) (f : Addr) (fd : FuncData) (ps : List Str) (sp : Sp) : Prop where
  len : ∀ vs H Q E, sp vs H Q E → vs.length = ps.length
  run : ∀ (A : Around), A.guards = some [] → Room k A → ∀ (outer : List Env) (s : Shared) (H : Hp), Env0 P w K mg base A outer s H →
    ∀ (args : Args) (us : List Value) (vs : List V) (Q : VK) (E : XK), BindsTo s fd args (ps.zip us) → Vals vs us → sp vs H Q E → codeAny (model P w) A (.call (.ref f) args) (CR CX0 outer P w H s Q E) s
section
variable {P : Program} {w : World} {K : PySem.W.Frag} {mg : Str → Option Value} {base : Heap}
theorem Fun.okG {x qual : Str} {st : Stmt} {f : Addr} {fd : FuncData} {N ps : List Str} {k : Nat} {sp : Sp} (F : Fun K x qual st f fd) (S : FnScope N ps (defScope st)) (len : ∀ vs H Q E, sp vs H Q E → vs.length = ps.length)
    (body : ∀ (cdv : Value) (A : Around) (outer : List Env) (s : Shared) (H : Hp) (vs : List V) (Q : VK) (E : XK), A.guards = some [] → Room k (A.deeper (envOfC qual (defScope st) s.heap.objs.size f cdv)) → sp vs H Q E →
      ∃ t, PSs (cxOf CX0 P w K mg base N qual (defScope st) f cdv A outer s H E).nox (defBody st) t ∧ t { nx := fun _ H' => Q .non H', rt := Q } (start N vs) H) : FnG P w K mg base (k + 1) f fd ps sp := by
  obtain ⟨oc, od, kV, doc, pm, an, cdv, ct, osl, rfl, lk, code⟩ := F.ex
  constructor
  · exact len
  intro A gA room outer s H env args us vs Q E bind rel want
  have nvs := len vs H Q E want
  have inK : K.In s.heap := env.mod.kin.keeps fun b o e => (env.bs b o e).1
  have nolim : s.heap.NoLimit := env.mod.nolimit.keeps fun b o e => (env.bs b o e).1
  obtain ⟨t, pt, rt⟩ := body cdv A outer s H vs Q E gA (room.deeper _) want
  apply codeAny_call_function room.depth (inK _ _ lk) rfl S.co S.gen rfl (PySem.W.codeRec_of inK code)
  apply bind
  refine wpAny_newFunctionEnv_cells S.kind (fun y my => ?_) fun e' he' s1 inc => ?_
  · obtain ⟨n, v⟩ := y
    cases S.par n (List.of_mem_zip my).1 with
    | inl h => exact .inl h
    | inr h => exact .inr ⟨h, PySem.W.cellsFrom_some _ _ _ (.inl h)⟩
  cases he'
  refine ⟨nolim.keeps inc.toInCall.keep, codeAny_func ?_⟩
  have I0 : Inv (cxOf CX0 P w K mg base N qual (defScope st) f cdv A outer s H E) [] (start N vs) H s1 := inv_start S room.hd env nvs rel inc
  refine wpAny_mono (pt.nox.run [] s1 (start N vs) H _ I0 rt) ?_ fun _ _ h => h
  intro fl s' h
  cases fl with
  | ret u =>
    obtain ⟨v, _, H', J, r, q⟩ := h
    exact ⟨v, H', J.os, J.bare, J.base, J.hok, r, q⟩
  | next =>
    obtain ⟨_, H', J, q⟩ := h
    exact ⟨V.non, H', J.os, J.bare, J.base, J.hok, rfl, q⟩
  | brk => obtain ⟨_, _, _, q⟩ := h; exact q.elim
  | cont => obtain ⟨_, _, _, q⟩ := h; exact q.elim
end
/-- the law's row from such a promise -/
theorem walk_g {l : PySem.W.OpenLaw} {n k : Nat} {q : Program} {loose : List Str} {XP : (Str → Option Value) → Heap → Prop} {YP : World → Heap → Prop} {d : DefRec} {K : Params → PySem.W.Frag} {sp : World → Sp} {x : Str}
    (most : l.most = some n) (small : n ≤ sizeLine) (nodf : d.params.defaults = []) (room : Room k callerA) (part : ∀ (w : World) (h : Heap), YP w h → (K w.params).In h)
    (F : ∀ (w : World) (mg : Str → Option Value) (fa : Addr) (h : Heap), (K w.params).In h → h.Ns mainGlobals mg → mg d.name = some (.ref fa) →
      ∃ fd : FuncData, (∀ (s : Shared) (u : Value), BindsTo s fd ⟨[u], []⟩ [(x, u)]) ∧ ∀ base : Heap, FnG l.prog w (K w.params) mg base k fa fd [x] (sp w))
    (holds : ∀ (w : World) (H : Hp) (a : Addr) (ns : List Int), ns.length ≤ n → SqL (K w.params) H a (ns.map V.int) → sp w [.ref a] H (fun v _ => v = .bl true) fun _ _ _ => False) :
    PySem.W.WalkO q loose XP YP l.row.toRowW d [] (fun f vs => PySem.call f vs) := by
  apply Att.attach_call most nodf
  intro w s0 s mg mb fa o pm cd doc a vs ns G Y _ _ _ isLaw obj hin len gens
  have inK := part w _ Y
  obtain ⟨fd, bind, ok⟩ := F w mg fa _ inK G.T.g isLaw
  -- the heap as told: the script alone, unless it is the module's own
  let H : Hp := fun b => if b = a ∧ (K w.params).lookup a = none then some (.frz { cls := .type "list", data := .seq vs.toArray } (.lst (ns.map V.int))) else none
  have hAt : ∀ {b u}, H b = some u → b = a ∧ (K w.params).lookup a = none ∧ u = .frz { cls := .type "list", data := .seq vs.toArray } (.lst (ns.map V.int)) := by
    intro b u e
    by_cases z : b = a ∧ (K w.params).lookup a = none
    · rw [show H b = _ from if_pos z] at e
      exact ⟨z.1, z.2, (Option.some.inj e).symm⟩
    · rw [show H b = _ from if_neg z] at e; cases e
  have rv := vals_ints hin
  have lz : ns.length ≤ sizeLine := Nat.le_trans len small
  have seq : SqL (K w.params) H a (ns.map V.int) := by
    cases z : (K w.params).lookup a with
    | none => exact .inl (.inr ⟨_, if_pos ⟨rfl, z⟩⟩)
    | some o' =>
      have e := inK a o' z
      rw [obj] at e
      cases e
      exact .inr ⟨_, vs.toArray, _, z, rfl, rfl, rfl, by rw [List.size_toArray, hin.length]; exact lz, by simpa using rv⟩
  have hok : HOk l.prog w H s.heap := by
    intro b u e
    obtain ⟨rfl, _, rfl⟩ := hAt e
    exact ⟨obj, by rw [List.length_map]; exact lz, vs, _, rv, obj⟩
  have off : ∀ {b o}, s.heap.get? b = some o → (∀ us m, o.data ≠ .seq us m) → H b = none := by
    intro b o e no
    cases z : H b with
    | none => rfl
    | some u =>
      obtain ⟨rfl, _, _⟩ := hAt z
      rw [obj] at e; cases e
      exact (no _ _ rfl).elim
  have low : ∀ {b m}, s.heap.Ns b m → (hidT s.heap H).Ns b m := by
    rintro b m ⟨o, es, ep, e, dt, r⟩
    exact ⟨o, es, ep, hidT_get e (off e (by rw [dt]; exact fun _ _ z => by cases z)), dt, r⟩
  have inB : (K w.params).In (hidT s.heap H) := by
    intro b o e
    apply hidT_get (inK b o e)
    cases z : H b with
    | none => rfl
    | some u =>
      obtain ⟨rfl, none', _⟩ := hAt z
      rw [none'] at e; cases e
  obtain ⟨mc, g1, g2⟩ := G.T.nolimit
  have start : Env0 l.prog w (K w.params) mg (hidT s.heap H) callerA [] s H := {
    frames := rfl
    mod := ⟨inB, low G.T.g, ⟨mb, low G.T.b, G.T.builtins⟩, mc, low g1, g2⟩
    bs := fun _ _ e => of_hidT e
    bsz := Nat.le_of_eq (hidT_size _ _)
    funs := trivial
    frf := fun b m => nomatch (show b ∈ ([] : List Addr) from m)
    hok := hok
    bare := .of_eq gens }
  have run := (ok (hidT s.heap H)).run callerA rfl room [] s H start ⟨[.ref a], []⟩ [.ref a] [.ref a] _ _ (bind s (.ref a)) (.cons rfl .nil) (holds w H a ns len seq)
  refine codeAny_mono run ?_
  intro r s' h
  match r, h with
  | .error _, h => exact h.elim
  | .ok .next, h => exact h.elim
  | .ok .brk, h => exact h.elim
  | .ok .cont, h => exact h.elim
  | .ok (.ret u), h =>
    obtain ⟨v, H', os, bare, un, hok', rel, isT⟩ := h
    have e1 : v = .bl true := isT
    subst e1
    have e2 : u = Value.bool true := rel
    subst e2
    refine ⟨rfl, OldK.of_keep fun b o e => ?_, os, bare⟩
    cases z : H b with
    | none => exact un.keep b o e z (fun m => nomatch (show b ∈ ([] : List Addr) from m)) (fun m => nomatch m)
    | some t =>
      obtain ⟨rfl, _, rfl⟩ := hAt z
      have two := hok' b _ (un.frzs b _ _ z)
      rw [obj] at e; cases e
      exact two.1
theorem room70 {k : Nat} {A : Around} (r : Room k A) : A.units + 70 < cLine := by have := r.un; omega
/-! repr of data -/
section
variable {X : Cx}
def rReprD (K : PySem.W.Frag) : List V → Hp → VK → Prop := fun vs H Q => ∃ (a : Addr) (d : PyData), vs = [V.ref a] ∧ Dp K H (.ref a) d ∧ d.showable = true ∧ d.hasDict = false ∧ d.depth ≤ 64 ∧ d.shown.length ≤ sizeLine ∧ Q (.str d.shown) H
theorem cr_reprD (gA : X.A.guards = some []) (un : X.A.units + 70 < cLine) : CallR X (.builtin "repr") (rReprD X.K) := by
  intro pins s σ H xs us Q I r h
  obtain ⟨a, d, rfl, dp, sh, nd, dep, len, q⟩ := h
  rw [Vals.ref1 r]
  obtain ⟨as, rd⟩ := Dp.reads I d (.ref a) (.ref a) dp rfl
  exact repr_of_reads' rd sh (PyData.noDict_hsm nd) gA (by omega) (fun _ _ e => e) (fun h' u tk hk => ⟨.str d.shown, H, I.kept hk, ⟨_, rfl⟩, q⟩) len
end
end L2

set_option Elab.async false
set_option linter.all false
set_option maxRecDepth 100000
set_option maxHeartbeats 1000000

--@@rec _law_expr _law_body _law_statement _copied _copied_statement _law_names

--@@guards
namespace Mine
open PySem PySem.Spec PyProof.Rows L2
local macro_rules | `(tactic| walk_at "my rn") => `(tactic| (repeat (first | with_reducible refine Rd.catQI ?_ | with_reducible refine Rd.revN ?_ | with_reducible refine Rd.lzip ?_ | with_reducible refine Rd.fld ?_ | with_reducible refine Rd.sfld ?_ | with_reducible refine Rd.meth ?_ | with_reducible refine Rd.make ?_ | with_reducible refine Rd.izip ?_ | with_reducible refine Rd.tupN ?_ | with_reducible refine Rd.lstN ?_ | with_reducible refine Rd.cbListOf ?_ | with_reducible refine Rd.cbListOfR ?_ | with_reducible refine Rd.catI ?_ | with_reducible refine Rd.slN ?_ | with_reducible refine Rd.cbSrtI ?_ | with_reducible refine Rd.seq ?_ | with_reducible refine Rd.next ?_ | with_reducible refine Rd.brk ?_ | with_reducible refine Rd.cont ?_ | with_reducible refine Rd.asg ?_ | with_reducible refine Rd.ret ?_ | with_reducible refine Rd.retN ?_ | with_reducible refine Rd.drop ?_ | with_reducible refine Rd.ifs ?_ | with_reducible refine Rd.ife ?_ | with_reducible refine Rd.test ?_ | with_reducible refine Rd.tb_ ?_ | with_reducible refine Rd.bl ?_ | with_reducible refine Rd.bl2 ?_ | with_reducible refine Rd.and_ ?_ | with_reducible refine Rd.or_ ?_ | with_reducible refine Rd.not_ ?_ | with_reducible refine Rd.andV ?_ | with_reducible refine Rd.orV ?_ | with_reducible refine Rd.notV ?_ | with_reducible refine Rd.op ?_ | with_reducible refine Rd.un ?_ | with_reducible refine Rd.I0 ?_ | with_reducible refine Rd.U ?_ | with_reducible refine Rd.ip ?_ | with_reducible refine Rd.c_ ?_ | with_reducible refine Rd.nil ?_ | with_reducible refine Rd.cons ?_ | with_reducible refine Rd.call ?_ | with_reducible refine Rd.cb ?_ | with_reducible refine Rd.bm ?_ | with_reducible refine Rd.bm0 ?_ | with_reducible refine Rd.nopart ?_ | with_reducible refine Rd.part ?_ | with_reducible refine Rd.int1 ?_ | with_reducible refine Rd.ints1 ?_ | with_reducible refine Rd.ints2 ?_ | with_reducible refine Rd.gcons ?_ | with_reducible refine Rd.gnil ?_ | with_reducible refine Rd.sub ?_ | with_reducible refine Rd.isN ?_ | with_reducible refine Rd.chain ?_ | with_reducible refine Rd.rf ?_ | with_reducible refine Rd.tyS ?_ | with_reducible refine Rd.intI ?_ | with_reducible refine Rd.lc ?_ | with_reducible refine Rd.for_ ?_ | with_reducible refine Rd.ilist ?_ | with_reducible refine Rd.itup ?_ | with_reducible refine Rd.irng1 ?_ | with_reducible refine Rd.irng2 ?_ | with_reducible refine Rd.ienum ?_ | with_reducible refine Rd.istr ?_ | with_reducible refine Rd.refA ?_ | with_reducible refine Rd.strA ?_ | with_reducible refine Rd.yes ?_ | with_reducible refine Rd.ifT ?_ | with_reducible refine Rd.ifF ?_ | with_reducible refine Rd.ifnT ?_ | with_reducible refine Rd.ifnF ?_ | with_reducible refine Rd.isi_ii ?_ | with_reducible refine Rd.isi_ib ?_ | with_reducible refine Rd.isi_is ?_ | with_reducible refine Rd.isi_il ?_ | with_reducible refine Rd.isi_it ?_ | with_reducible refine Rd.isi_id ?_ | with_reducible refine Rd.isi_bi ?_ | with_reducible refine Rd.isi_bb ?_ | with_reducible refine Rd.isi_bs ?_ | with_reducible refine Rd.isi_bl ?_ | with_reducible refine Rd.isi_bt ?_ | with_reducible refine Rd.isi_bd ?_ | with_reducible refine Rd.isi_si ?_ | with_reducible refine Rd.isi_sb ?_ | with_reducible refine Rd.isi_ss ?_ | with_reducible refine Rd.isi_sl ?_ | with_reducible refine Rd.isi_st ?_ | with_reducible refine Rd.isi_sd ?_ | with_reducible refine Rd.isi_ni ?_ | with_reducible refine Rd.isi_nb ?_ | with_reducible refine Rd.isi_ns ?_ | with_reducible refine Rd.isi_nl ?_ | with_reducible refine Rd.isi_nt ?_ | with_reducible refine Rd.isi_nd ?_ | with_reducible refine Rd.sl ?_ | with_reducible refine Rd.v0 ?_ | with_reducible refine Rd.v1 ?_ | with_reducible refine Rd.v2 ?_ | with_reducible refine Rd.v3 ?_ | with_reducible refine Rd.v4 ?_ | with_reducible refine Rd.v5 ?_ | with_reducible refine Rd.v6 ?_ | with_reducible refine Rd.v7 ?_ | with_reducible refine Rd.v8 ?_ | with_reducible refine Rd.v9 ?_ | with_reducible refine Rd.v10 ?_ | with_reducible refine Rd.v11 ?_ | with_reducible refine Rd.v12 ?_ | with_reducible refine Rd.v13 ?_ | with_reducible refine Rd.v14 ?_ | with_reducible refine Rd.v15 ?_ | with_reducible refine Rd.n0 ?_ | with_reducible refine Rd.n1 ?_ | with_reducible refine Rd.n2 ?_ | with_reducible refine Rd.n3 ?_ | with_reducible refine Rd.n4 ?_ | with_reducible refine Rd.n5 ?_ | with_reducible refine Rd.n6 ?_ | with_reducible refine Rd.n7 ?_ | with_reducible refine Rd.n8 ?_ | with_reducible refine Rd.n9 ?_ | with_reducible refine Rd.n10 ?_ | with_reducible refine Rd.n11 ?_ | with_reducible refine Rd.n12 ?_ | with_reducible refine Rd.n13 ?_ | with_reducible refine Rd.n14 ?_ | with_reducible refine Rd.n15 ?_ | with_reducible refine Rd.g0 ?_ | with_reducible refine Rd.g1 ?_ | with_reducible refine Rd.g2 ?_ | with_reducible refine Rd.g3 ?_ | with_reducible refine Rd.g4 ?_ | with_reducible refine Rd.g5 ?_ | with_reducible refine Rd.g6 ?_ | with_reducible refine Rd.g7 ?_ | with_reducible refine Rd.g8 ?_ | with_reducible refine Rd.g9 ?_ | with_reducible refine Rd.g10 ?_ | with_reducible refine Rd.g11 ?_ | with_reducible refine Rd.g12 ?_ | with_reducible refine Rd.g13 ?_ | with_reducible refine Rd.g14 ?_ | with_reducible refine Rd.g15 ?_ | ((with_reducible apply Rd.glst); (first | assumption | exact upd_same); exact rfl) | ((with_reducible apply Rd.gtP); assumption; assumption) | ((with_reducible apply Rd.revq); first | assumption | exact SqL.of (by assumption)) | ((with_reducible apply Rd.fldI); (first | assumption | exact upd_same); assumption; assumption; (first | assumption | with_unfolding_all rfl)) | ((with_reducible apply Rd.methI); (first | assumption | exact upd_same); (first | assumption | with_unfolding_all rfl)) | ((with_reducible apply Rd.sfldI); (first | assumption | exact upd_same); assumption; assumption; exact Nat.le_of_ble_eq_true rfl) | ((with_reducible apply Rd.maxL); assumption) | ((with_reducible apply Rd.anyL); assumption) | ((with_reducible apply Rd.sumL); assumption) | ((with_reducible refine Rd.izI (by assumption) (by assumption) ?_)) | ((with_reducible refine Rd.eq ?_ ?_); exact rfl) | ((with_reducible refine Rd.ne ?_ ?_); exact rfl) | ((with_reducible refine Rd.szA ?_ ?_); exact Nat.le_of_ble_eq_true rfl) | ((with_reducible refine Rd.I ?_ ?_); first | assumption | decide | exact Or.inr (by decide +kernel) | exact Or.inl (by decide +kernel) | exact ⟨by decide, by decide⟩ | exact ⟨by decide, by decide, by decide⟩ | omega) | ((with_reducible apply Rd.tyL); first | assumption | exact upd_same) | ((with_reducible apply Rd.tyLq); assumption) | ((with_reducible apply Rd.ixL); (first | assumption | exact upd_same); exact rfl) | ((with_reducible apply Rd.ixT); (first | assumption | exact upd_same); exact rfl) | ((with_reducible apply Rd.ixLq); assumption; exact rfl) | ((with_reducible apply Rd.ixTq); assumption; exact rfl) | ((with_reducible apply Rd.gtup); (first | assumption | exact upd_same); exact rfl) | ((with_reducible apply Rd.gtupq); assumption; exact rfl) | ((with_reducible apply Rd.sqAq); assumption) | ((with_reducible apply Rd.stAq); assumption) | ((with_reducible apply Rd.enAq); assumption) | ((with_reducible apply Rd.lenLq); assumption) | ((with_reducible apply Rd.lenTq); assumption) | ((with_reducible apply Rd.sqA); first | assumption | exact upd_same) | ((with_reducible apply Rd.stA); first | assumption | exact upd_same) | ((with_reducible apply Rd.enA); first | assumption | exact upd_same) | ((with_reducible apply Rd.lenL); first | assumption | exact upd_same) | ((with_reducible apply Rd.lenT); first | assumption | exact upd_same) | ((with_reducible refine Rd.nwT ?_ ?_); exact Nat.le_of_ble_eq_true rfl) | ((with_reducible refine Rd.nwL ?_ ?_); exact Nat.le_of_ble_eq_true rfl) | ((with_reducible apply Rd.listOf); assumption) | ((with_reducible apply Rd.listOfq); assumption) | ((with_reducible apply Rd.slo); assumption) | ((with_reducible apply Rd.slq); assumption) | ((with_reducible apply Rd.srtI); assumption) | ((with_reducible apply Rd.srtIo); assumption) | ((with_reducible refine Rd.isi_li (by assumption) ?_)) | ((with_reducible refine Rd.isi_lb (by assumption) ?_)) | ((with_reducible refine Rd.isi_ls (by assumption) ?_)) | ((with_reducible refine Rd.isi_ll (by assumption) ?_)) | ((with_reducible refine Rd.isi_lt (by assumption) ?_)) | ((with_reducible refine Rd.isi_ld (by assumption) ?_)) | ((with_reducible refine Rd.isi_ti (by assumption) ?_)) | ((with_reducible refine Rd.isi_tb (by assumption) ?_)) | ((with_reducible refine Rd.isi_ts (by assumption) ?_)) | ((with_reducible refine Rd.isi_tl (by assumption) ?_)) | ((with_reducible refine Rd.isi_tt (by assumption) ?_)) | ((with_reducible refine Rd.isi_td (by assumption) ?_)))))
def topS (i : Nat) : Stmt := PySem.Challenge.pw_deadbeat_k10_reach_and_use.main.body.getD i (.Pass ⟨0, 0, 0, 0⟩)
abbrev s__law_state : Stmt := topS 11
theorem sc__law_state : FnScope ["script", "seed", "cell"] ["script"] (defScope s__law_state) := ⟨rfl, rfl, rfl, by decide +kernel, rfl, by decide +kernel, by decide +kernel⟩
abbrev s__law_draw : Stmt := topS 12
theorem sc__law_draw : FnScope ["state", "many", "cells", "value", "mixed"] ["state", "many"] (defScope s__law_draw) := ⟨rfl, rfl, rfl, by decide +kernel, rfl, by decide +kernel, by decide +kernel⟩
abbrev s__law_pick : Stmt := topS 13
theorem sc__law_pick : FnScope ["state", "row"] ["state", "row"] (defScope s__law_pick) := ⟨rfl, rfl, rfl, by decide +kernel, rfl, by decide +kernel, by decide +kernel⟩
abbrev s__law_word : Stmt := topS 14
theorem sc__law_word : FnScope ["state", "edges"] ["state"] (defScope s__law_word) := ⟨rfl, rfl, rfl, by decide +kernel, rfl, by decide +kernel, by decide +kernel⟩
abbrev s__law_expr : Stmt := topS 15
theorem sc__law_expr : FnScope ["state", "env", "deep", "signs", "kind", "rows", "name", "size", "first"] ["state", "env", "deep"] (defScope s__law_expr) := ⟨rfl, rfl, rfl, by decide +kernel, rfl, by decide +kernel, by decide +kernel⟩
abbrev s__law_place : Stmt := topS 16
theorem sc__law_place : FnScope ["state", "env", "name", "size"] ["state", "env"] (defScope s__law_place) := ⟨rfl, rfl, rfl, by decide +kernel, rfl, by decide +kernel, by decide +kernel⟩
abbrev s__law_statement : Stmt := topS 17
theorem sc__law_statement : FnScope ["state", "env", "nested", "kind", "test", "name", "inner", "thing", "operation", "many", "args", "k", "way"] ["state", "env", "nested"] (defScope s__law_statement) := ⟨rfl, rfl, rfl, by decide +kernel, rfl, by decide +kernel, by decide +kernel⟩
abbrev s__law_body : Stmt := topS 18
theorem sc__law_body : FnScope ["state", "env", "nested", "k"] ["state", "env", "nested"] (defScope s__law_body) := ⟨rfl, rfl, rfl, by decide +kernel, rfl, by decide +kernel, by decide +kernel⟩
abbrev s_find : Stmt := topS 6
theorem sc_find : FnScope ["rows", "name", "at", "row"] ["rows", "name"] (defScope s_find) := ⟨rfl, rfl, rfl, by decide +kernel, rfl, by decide +kernel, by decide +kernel⟩
abbrev s__inside : Stmt := topS 2
theorem sc__inside : FnScope ["statement"] ["statement"] (defScope s__inside) := ⟨rfl, rfl, rfl, by decide +kernel, rfl, by decide +kernel, by decide +kernel⟩
abbrev s__copied : Stmt := topS 3
theorem sc__copied : FnScope ["body", "statement"] ["body"] (defScope s__copied) := ⟨rfl, rfl, rfl, by decide +kernel, rfl, by decide +kernel, by decide +kernel⟩
abbrev s__copied_statement : Stmt := topS 4
theorem sc__copied_statement : FnScope ["statement", "kind", "_", "e", "then", "other", "name", "count", "body", "place", "thing", "operation", "given"] ["statement"] (defScope s__copied_statement) := ⟨rfl, rfl, rfl, by decide +kernel, rfl, by decide +kernel, by decide +kernel⟩
abbrev s_statements : Stmt := topS 1
theorem sc_statements : FnScope ["body", "found", "waiting", "statement"] ["body"] (defScope s_statements) := ⟨rfl, rfl, rfl, by decide +kernel, rfl, by decide +kernel, by decide +kernel⟩
abbrev s__reached_by : Stmt := topS 9
theorem sc__reached_by : FnScope ["program", "body", "found", "indexes", "statement"] ["program", "body", "found"] (defScope s__reached_by) := ⟨rfl, rfl, rfl, by decide +kernel, rfl, by decide +kernel, by decide +kernel⟩
abbrev s_reached : Stmt := topS 7
theorem sc_reached : FnScope ["program", "objects", "found", "_", "at", "near", "operation"] ["program"] (defScope s_reached) := ⟨rfl, rfl, rfl, by decide +kernel, rfl, by decide +kernel, by decide +kernel⟩
abbrev s_used : Stmt := topS 8
theorem sc_used : FnScope ["program", "found", "by_tasks", "task", "by_interrupts", "interrupt"] ["program"] (defScope s_used) := ⟨rfl, rfl, rfl, by decide +kernel, rfl, by decide +kernel, by decide +kernel⟩
abbrev s__law_objects : Stmt := topS 19
theorem sc__law_objects : FnScope ["state", "most", "things", "calls", "j", "fields", "rows", "k", "params", "own", "cells", "name", "body", "result", "item"] ["state", "most"] (defScope s__law_objects) := ⟨rfl, rfl, rfl, by decide +kernel, rfl, by decide +kernel, by decide +kernel⟩
abbrev s__law_program : Stmt := topS 20
theorem sc__law_program : FnScope ["state", "most_tasks", "most_objects", "ports", "k", "things", "calls", "tasks", "cells", "body", "within", "rest", "thing", "operation", "many", "args"] ["state", "most_tasks", "most_objects"] (defScope s__law_program) := ⟨rfl, rfl, rfl, by decide +kernel, rfl, by decide +kernel, by decide +kernel⟩
abbrev s__law_names : Stmt := topS 21
theorem sc__law_names : FnScope ["body", "names", "statement"] ["body"] (defScope s__law_names) := ⟨rfl, rfl, rfl, by decide +kernel, rfl, by decide +kernel, by decide +kernel⟩
abbrev s__law_grow : Stmt := topS 22
theorem sc__law_grow : FnScope ["program", "found", "k", "at", "item", "name", "other"] ["program", "found"] (defScope s__law_grow) := ⟨rfl, rfl, rfl, by decide +kernel, rfl, by decide +kernel, by decide +kernel⟩
abbrev s__law_start : Stmt := topS 23
theorem sc__law_start : FnScope ["program", "names", "at"] ["program", "names"] (defScope s__law_start) := ⟨rfl, rfl, rfl, by decide +kernel, rfl, by decide +kernel, by decide +kernel⟩
abbrev s__law_same : Stmt := topS 24
theorem sc__law_same : FnScope ["actual", "due", "k", "j", "item"] ["actual", "due"] (defScope s__law_same) := ⟨rfl, rfl, rfl, by decide +kernel, rfl, by decide +kernel, by decide +kernel⟩
abbrev s_law : Stmt := topS 25
theorem sc_law : FnScope ["script", "state", "program", "before", "rows", "row", "k", "reach", "at", "users", "task", "item", "first", "second"] ["script"] (defScope s_law) := ⟨rfl, rfl, rfl, by decide +kernel, rfl, by decide +kernel, by decide +kernel⟩
structure Top (K : PySem.W.Frag) (mg : Str → Option Value) where
  a__law_state : Addr
  d__law_state : FuncData
  F__law_state : Fun K "_law_state" "_law_state" s__law_state a__law_state d__law_state
  g__law_state : mg "_law_state" = some (.ref a__law_state)
  b__law_state : Binds K d__law_state ["script"] []
  a__law_draw : Addr
  d__law_draw : FuncData
  F__law_draw : Fun K "_law_draw" "_law_draw" s__law_draw a__law_draw d__law_draw
  g__law_draw : mg "_law_draw" = some (.ref a__law_draw)
  b__law_draw : Binds K d__law_draw ["state", "many"] []
  a__law_pick : Addr
  d__law_pick : FuncData
  F__law_pick : Fun K "_law_pick" "_law_pick" s__law_pick a__law_pick d__law_pick
  g__law_pick : mg "_law_pick" = some (.ref a__law_pick)
  b__law_pick : Binds K d__law_pick ["state", "row"] []
  a__law_word : Addr
  d__law_word : FuncData
  F__law_word : Fun K "_law_word" "_law_word" s__law_word a__law_word d__law_word
  g__law_word : mg "_law_word" = some (.ref a__law_word)
  b__law_word : Binds K d__law_word ["state"] []
  a__law_expr : Addr
  d__law_expr : FuncData
  F__law_expr : Fun K "_law_expr" "_law_expr" s__law_expr a__law_expr d__law_expr
  g__law_expr : mg "_law_expr" = some (.ref a__law_expr)
  b__law_expr : Binds K d__law_expr ["state", "env", "deep"] []
  a__law_place : Addr
  d__law_place : FuncData
  F__law_place : Fun K "_law_place" "_law_place" s__law_place a__law_place d__law_place
  g__law_place : mg "_law_place" = some (.ref a__law_place)
  b__law_place : Binds K d__law_place ["state", "env"] []
  a__law_statement : Addr
  d__law_statement : FuncData
  F__law_statement : Fun K "_law_statement" "_law_statement" s__law_statement a__law_statement d__law_statement
  g__law_statement : mg "_law_statement" = some (.ref a__law_statement)
  b__law_statement : Binds K d__law_statement ["state", "env", "nested"] []
  a__law_body : Addr
  d__law_body : FuncData
  F__law_body : Fun K "_law_body" "_law_body" s__law_body a__law_body d__law_body
  g__law_body : mg "_law_body" = some (.ref a__law_body)
  b__law_body : Binds K d__law_body ["state", "env", "nested"] []
  a_find : Addr
  d_find : FuncData
  F_find : Fun K "find" "find" s_find a_find d_find
  g_find : mg "find" = some (.ref a_find)
  b_find : Binds K d_find ["rows", "name"] []
  a__inside : Addr
  d__inside : FuncData
  F__inside : Fun K "_inside" "_inside" s__inside a__inside d__inside
  g__inside : mg "_inside" = some (.ref a__inside)
  b__inside : Binds K d__inside ["statement"] []
  a__copied : Addr
  d__copied : FuncData
  F__copied : Fun K "_copied" "_copied" s__copied a__copied d__copied
  g__copied : mg "_copied" = some (.ref a__copied)
  b__copied : Binds K d__copied ["body"] []
  a__copied_statement : Addr
  d__copied_statement : FuncData
  F__copied_statement : Fun K "_copied_statement" "_copied_statement" s__copied_statement a__copied_statement d__copied_statement
  g__copied_statement : mg "_copied_statement" = some (.ref a__copied_statement)
  b__copied_statement : Binds K d__copied_statement ["statement"] []
  a_statements : Addr
  d_statements : FuncData
  F_statements : Fun K "statements" "statements" s_statements a_statements d_statements
  g_statements : mg "statements" = some (.ref a_statements)
  b_statements : Binds K d_statements ["body"] []
  a__reached_by : Addr
  d__reached_by : FuncData
  F__reached_by : Fun K "_reached_by" "_reached_by" s__reached_by a__reached_by d__reached_by
  g__reached_by : mg "_reached_by" = some (.ref a__reached_by)
  b__reached_by : Binds K d__reached_by ["program", "body", "found"] []
  a_reached : Addr
  d_reached : FuncData
  F_reached : Fun K "reached" "reached" s_reached a_reached d_reached
  g_reached : mg "reached" = some (.ref a_reached)
  b_reached : Binds K d_reached ["program"] []
  a_used : Addr
  d_used : FuncData
  F_used : Fun K "used" "used" s_used a_used d_used
  g_used : mg "used" = some (.ref a_used)
  b_used : Binds K d_used ["program"] []
  a__law_objects : Addr
  d__law_objects : FuncData
  F__law_objects : Fun K "_law_objects" "_law_objects" s__law_objects a__law_objects d__law_objects
  g__law_objects : mg "_law_objects" = some (.ref a__law_objects)
  b__law_objects : Binds K d__law_objects ["state", "most"] []
  a__law_program : Addr
  d__law_program : FuncData
  F__law_program : Fun K "_law_program" "_law_program" s__law_program a__law_program d__law_program
  g__law_program : mg "_law_program" = some (.ref a__law_program)
  b__law_program : Binds K d__law_program ["state", "most_tasks", "most_objects"] []
  a__law_names : Addr
  d__law_names : FuncData
  F__law_names : Fun K "_law_names" "_law_names" s__law_names a__law_names d__law_names
  g__law_names : mg "_law_names" = some (.ref a__law_names)
  b__law_names : Binds K d__law_names ["body"] []
  a__law_grow : Addr
  d__law_grow : FuncData
  F__law_grow : Fun K "_law_grow" "_law_grow" s__law_grow a__law_grow d__law_grow
  g__law_grow : mg "_law_grow" = some (.ref a__law_grow)
  b__law_grow : Binds K d__law_grow ["program", "found"] []
  a__law_start : Addr
  d__law_start : FuncData
  F__law_start : Fun K "_law_start" "_law_start" s__law_start a__law_start d__law_start
  g__law_start : mg "_law_start" = some (.ref a__law_start)
  b__law_start : Binds K d__law_start ["program", "names"] []
  a__law_same : Addr
  d__law_same : FuncData
  F__law_same : Fun K "_law_same" "_law_same" s__law_same a__law_same d__law_same
  g__law_same : mg "_law_same" = some (.ref a__law_same)
  b__law_same : Binds K d__law_same ["actual", "due"] []
  a_law : Addr
  d_law : FuncData
  F_law : Fun K "law" "law" s_law a_law d_law
  g_law : mg "law" = some (.ref a_law)
  b_law : Binds K d_law ["script"] []
  m_int : mg "int" = none
  m_abs : mg "abs" = none
  m_len : mg "len" = none
  m_range : mg "range" = none
  m_str : mg "str" = none
  m_enumerate : mg "enumerate" = none
  m_list : mg "list" = none
  m_reversed : mg "reversed" = none
  m_set : mg "set" = none
  m_sorted : mg "sorted" = none
  m_bool : mg "bool" = none
  m_isinstance : mg "isinstance" = none
  m_repr : mg "repr" = none
/-- the state of the law's draws: the list at p, the cells' list at c -/
def StOk (H : Hp) (p c : Addr) : Prop := ∃ (ms : List Int) (sd : Int), p ≠ c ∧ H p = some (.lst [.ref c, .int sd]) ∧ H c = some (.lst (ms.map V.int)) ∧ ms.length ≤ 63 ∧ (∀ m ∈ ms, 0 ≤ m) ∧ 0 ≤ sd ∧ sd ≤ 2147483647
/-- all but the state is as it was -/
def Keep (p c : Addr) (H H' : Hp) : Prop := ∀ b o, b ≠ p → b ≠ c → H b = some o → H' b = some o
theorem Keep.refl (p c : Addr) (H : Hp) : Keep p c H H := fun _ _ _ _ h => h
theorem Keep.trans {p c : Addr} {H H1 H2 : Hp} (a : Keep p c H H1) (b : Keep p c H1 H2) : Keep p c H H2 := fun x o h1 h2 h => b x o h1 h2 (a x o h1 h2 h)
theorem Keep.same {p c : Addr} {H H1 : Hp} (a : Same H H1) : Keep p c H H1 := fun x o _ _ h => a x o h
theorem Keep.atp {p c : Addr} {H : Hp} {o : HO} : Keep p c H (upd H p o) := fun x u h1 _ h => by
  rw [upd_ne h1]
  exact h
theorem Keep.atc {p c : Addr} {H : Hp} {o : HO} : Keep p c H (upd H c o) := fun x u _ h2 h => by
  rw [upd_ne h2]
  exact h
theorem StOk.same {H H' : Hp} {p c : Addr} (s : StOk H p c) (e : Same H H') : StOk H' p c := by
  obtain ⟨ms, sd, h1, h2, h3, h⟩ := s
  exact ⟨ms, sd, h1, e _ _ h2, e _ _ h3, h⟩
/-- an address that is free behind was free before -/
theorem Keep.free {p c : Addr} {H H' : Hp} (k : Keep p c H H') (s : StOk H' p c) {l : Addr} (h : H' l = Option.none) : H l = Option.none := by
  obtain ⟨ms, sd, h1, h2, h3, _⟩ := s
  cases e : H l with
  | none => rfl
  | some o =>
    have np : l ≠ p := fun z => by rw [z, h2] at h; cases h
    have nc : l ≠ c := fun z => by rw [z, h3] at h; cases h
    rw [k l o np nc e] at h
    cases h
theorem StOk.ne {H : Hp} {p c l : Addr} (s : StOk H p c) (h : H l = Option.none) : l ≠ p ∧ l ≠ c := by
  obtain ⟨ms, sd, h1, h2, h3, _⟩ := s
  exact ⟨fun z => (by rw [z, h2] at h; cases h), fun z => (by rw [z, h3] at h; cases h)⟩
section
variable {P : Program} {w : World} {K : PySem.W.Frag} {mg : Str → Option Value} {base : Heap}
def sp__law_state (K : PySem.W.Frag) : Sp := fun vs H Q _ => ∃ (a : Addr) (ns : List Int), vs = [.ref a] ∧ SqL K H a (ns.map V.int) ∧ ns.length ≤ 63 ∧ ∀ (H' : Hp) (p c : Addr), Same H H' → H p = none → H c = none → StOk H' p c → Q (.ref p) H'
theorem abs_nn (n : Int) : 0 ≤ (if n < 0 then -n else n) := by
  split <;> omega
def absI (n : Int) : Int := if n < 0 then -n else n
theorem ok__law_state (T : Top K mg) : FnOk P w K mg base CX0 1 T.a__law_state T.d__law_state ["script"]  (sp__law_state K) := by
  refine T.F__law_state.ok sc__law_state (fun vs H Q E h => ?_) (fun cdv A outer s H vs Q E hr h => ?_)
  · obtain ⟨_, _, rfl, _⟩ := h
    rfl
  · obtain ⟨a, ns, rfl, hS, hlen, q⟩ := h
    refine ⟨_, (pss_cons (ps_set (i := 1) sc__law_state.nd rfl (by first | exact Or.inl rfl | exact Or.inr rfl) pe_int)
  (pss_cons (ps_for PassesOwn.never rfl (pi_list (pv 0)) (pg_name (i := 2) sc__law_state.nd rfl (by first | exact Or.inl rfl | exact Or.inr rfl))
  (pss_one (ps_set (i := 1) sc__law_state.nd rfl (by first | exact Or.inl rfl | exact Or.inr rfl) (pe_op op_mod (pe_callTy call_int1 (by rfl) T.m_int (by decide +kernel) (pa_cons (pe_op op_add (pe_op op_mul (pv 1) pe_int) (pv 2)) pa_nil)) pe_int))))
  (pss_one (ps_ret (pe_lst (pa_cons (pe_lc (own := [("cell", 2)]) (g := gName 2) (tt := tYes) rfl sc__law_state.nd (pi_list (pv 0)) (blkOk_by (N := ["script", "seed", "cell"]) (sc := defScope s__law_state) (by decide +kernel)) (fun _ _ _ _ _ => pg_name (i := 2) sc__law_state.nd rfl (Or.inl rfl)) (fun _ _ _ _ _ => pts_nil) (fun _ _ _ _ _ => (pe_callB call_abs (by rfl) T.m_abs (by decide +kernel) (pa_cons (pe_callTy call_int1 (by rfl) T.m_int (by decide +kernel) (pa_cons (pv 2) pa_nil)) pa_nil)))) (pa_cons (pe_op op_add (pv 1) pe_int) pa_nil))))))), ?_⟩
    refine ⟨_, rfl, a, rfl, ⟨_, hS⟩, for_list (xs := ns.map V.int) (fun i σ H' => ∃ sd y2, σ = [some (.ref a), some (.int sd), y2] ∧ H' = H ∧ 0 ≤ sd ∧ sd < 1000003) ⟨7, none, rfl, rfl, by decide, by decide⟩ (fun i σ H' _ ⟨_, _, _, e, _⟩ => by rw [e]; exact hS) ?_ ?_⟩
    · rintro i x σ H' hi ⟨sd, y2, rfl, rfl, h0, h1⟩
      obtain ⟨n, _, rfl⟩ := List.mem_map.mp (List.mem_of_getElem? hi)
      refine ⟨_, rfl, _, _, rfl, rfl, .inl ⟨by omega, by omega⟩, _, rfl, _, _, rfl, rfl, .inl ⟨_, rfl, _, _, rfl, rfl, (by show (0 : Int) < 1000003; decide), ?_⟩⟩
      exact ⟨_, _, rfl, rfl, Int.emod_nonneg _ (by decide), Int.emod_lt_of_pos _ (by decide)⟩
    · rintro σ H' ⟨sd, y2, rfl, rfl, h0, h1⟩
      refine ⟨_, rfl, a, rfl, ⟨_, hS⟩, fun c hc => ?_⟩
      refine lc_list (xs := ns.map V.int) (fun i H'' => H'' = upd H' c (.lst ((ns.take i).map fun n => V.int (absI n)))) rfl (fun i H'' _ e => ?_) ?_ ?_
      · rw [e]
        exact (same_new hc).seq hS
      · rintro i x H'' hi rfl
        obtain ⟨n, hn, rfl⟩ : ∃ n, ns[i]? = some n ∧ V.int n = x := by
          rw [List.getElem?_map] at hi
          cases e : ns[i]? with
          | none => rw [e] at hi; cases hi
          | some n => rw [e] at hi; exact ⟨n, rfl, Option.some.inj hi⟩
        refine ⟨rfl, ?_⟩
        refine ⟨_, rfl, .inl ⟨_, rfl, _, rfl, _, upd_same, ?_, ?_⟩⟩
        · rw [List.length_map, List.length_take]
          exact small1000 (by omega)
        · rw [upd_upd, List.take_add_one, hn, List.map_append]
          rfl
      · rintro H'' rfl
        rw [List.length_map, List.take_length]
        refine ⟨_, rfl, _, _, rfl, rfl, (by show 2 ≤ sizeLine; decide), fun p hp => ?_⟩
        have npc : p ≠ c := fun z => by rw [z, upd_same] at hp; cases hp
        refine q _ p c ((same_new hc).trans (same_new hp)) ((same_new hc).free hp) hc ⟨ns.map absI, sd + 1, npc, upd_same, ?_, ?_, ?_, by omega, by omega⟩
        · rw [upd_ne npc.symm, upd_same, List.map_map]
          rfl
        · rw [List.length_map]
          exact hlen
        · intro m hm
          obtain ⟨n, _, rfl⟩ := List.mem_map.mp hm
          exact abs_nn n
theorem ix0 {n : Nat} (h : 0 < n) : ixN n 0 = some 0 := by
  unfold ixN
  rw [if_pos (by decide), if_pos (by omega)]
  rfl
theorem seq0 {n : Nat} (h : 0 < n) : seqIndex? 0 n = some 0 := by
  unfold seqIndex?
  simp
  omega
def sp__law_draw : Sp := fun vs H Q _ => ∃ (p c : Addr) (many : Int), vs = [.ref p, .int many] ∧ StOk H p c ∧ 0 < many ∧ many ≤ 1099511627775 ∧ ∀ (v : Int) (H' : Hp), 0 ≤ v → v < many → StOk H' p c → Keep p c H H' → Q (.int v) H'
theorem ok__law_draw (T : Top K mg) : FnOk P w K mg base CX0 1 T.a__law_draw T.d__law_draw ["state", "many"]  sp__law_draw := by
  refine T.F__law_draw.ok sc__law_draw (fun vs H Q E h => ?_) (fun cdv A outer s H vs Q E hr h => ?_)
  · obtain ⟨_, _, _, rfl, _⟩ := h
    rfl
  · obtain ⟨p, c, many, rfl, hst, hm0, hm1, q⟩ := h
    obtain ⟨ms, sd, npc, hp, hc, hl, hn, s0, s1⟩ := hst
    refine ⟨_, (pss_cons (ps_set (i := 2) sc__law_draw.nd rfl (by first | exact Or.inl rfl | exact Or.inr rfl) (pe_ix ix_list (pv 0) pe_int (fun _ _ => rfl)))
  (pss_cons (ps_while PassesOwn.never (pw_and (pt_cmpR op_gt (pe_callB call_len_seq (by rfl) T.m_len PySem.boot_len (pa_cons (pv 2) pa_nil)) pe_int (nomark _)) (pw_and1 (pt_cmpR op_eq (pe_ix ix_list (pv 2) pe_int (fun _ _ => rfl)) pe_int (nomark _)))).pt
  (pss_one (ps_expr (pe_bm PySem.F.plainAttrs_list PySem.F.slot_list_pop PySem.F.type_list_pop mt_popAt (pv 2) (pa_cons pe_int pa_nil)))))
  (pss_cons (ps_if (pt_cmpR op_gt (pe_callB call_len_seq (by rfl) T.m_len PySem.boot_len (pa_cons (pv 2) pa_nil)) pe_int (nomark _))
  (pss_cons (ps_set (i := 3) sc__law_draw.nd rfl (by first | exact Or.inl rfl | exact Or.inr rfl) (pe_ix ix_list (pv 2) pe_int (fun _ _ => rfl)))
  (pss_cons (ps_asg (pe_op op_fdivW (pv 3) (pv 1)) (pg_sub (pv 2) pe_int set_list))
  (pss_one (ps_ret (pe_op op_mod (pe_callTy call_int1 (by rfl) T.m_int (by decide +kernel) (pa_cons (pv 3) pa_nil)) (pv 1))))))
  pss_nil)
  (pss_cons (ps_set (i := 4) sc__law_draw.nd rfl (by first | exact Or.inl rfl | exact Or.inr rfl) (pe_op op_mod (pe_callTy call_int1 (by rfl) T.m_int (by decide +kernel) (pa_cons (pe_op op_add (pe_op op_mul (pe_ix ix_list (pv 0) pe_int (fun _ _ => rfl)) pe_int) pe_int) pa_nil)) pe_int))
  (pss_cons (ps_asg (pv 4) (pg_sub (pv 0) pe_int set_list))
  (pss_one (ps_ret (pe_op op_mod (pe_callTy call_int1 (by rfl) T.m_int (by decide +kernel) (pa_cons (pe_op op_fdivW (pv 4) pe_int) pa_nil)) (pv 1))))))))), ?_⟩
    have hw : many.natAbs < 2 ^ 40 := by omega
    refine ⟨_, rfl, p, _, 0, .ref c, rfl, rfl, SqL.of hp, atI_nat (j := 0) rfl, ?_⟩
    -- the noughts ahead are dropped
    refine ⟨fun m σ H' => ∃ ms' : List Int, m = ms'.length ∧ σ = [some (.ref p), some (.int many), some (.ref c), none, none] ∧ H' = upd H c (.lst (ms'.map V.int)) ∧ ms'.length ≤ 63 ∧ ∀ x ∈ ms', 0 ≤ x,
      ⟨ms.length, ms, rfl, rfl, (upd_self hc).symm, hl, hn⟩, ?_⟩
    rintro m σ H' ⟨ms', rfl, rfl, rfl, hl', hn'⟩
    have hc' : (upd H c (.lst (ms'.map V.int))) c = some (.lst (ms'.map V.int)) := upd_same
    have hp' : (upd H c (.lst (ms'.map V.int))) p = some (.lst [.ref c, .int sd]) := by rw [upd_ne npc]; exact hp
    refine ⟨_, rfl, c, _, rfl, .inl (SqL.of hc'), _, _, rfl, rfl, _, rfl, ?_⟩
    have fin : ∀ (x : Int) (ms2 : List Int) (H2 : Hp), 0 ≤ x → ms2.length ≤ 63 → (∀ y ∈ ms2, 0 ≤ y) → H2 = upd H c (.lst (ms2.map V.int)) → Q (.int (x % many)) H2 := fun x ms2 H2 hx hl2 hn2 e => by
      rw [e]
      exact q _ _ (Int.emod_nonneg _ (by omega)) (Int.emod_lt_of_pos _ hm0) ⟨ms2, sd, npc, by rw [upd_ne npc]; exact hp, upd_same, hl2, hn2, s0, s1⟩ Keep.atc
    cases ms' with
    | nil =>
      refine iteF (iteF ?_)
      refine ⟨_, rfl, c, _, rfl, .inl (SqL.of hc'), _, _, rfl, rfl, _, rfl, iteF ?_⟩
      refine ⟨_, rfl, p, _, 1, .int sd, rfl, rfl, SqL.of hp', atI_nat (j := 1) rfl, _, _, rfl, rfl, .inl ⟨by omega, by omega⟩, _, _, rfl, rfl, .inl ⟨_, rfl, _, _, rfl, rfl, (by show (0 : Int) < 2147483647; decide), ?_⟩⟩
      refine ⟨_, rfl, _, rfl, p, _, 1, 1, rfl, rfl, hp', rfl, ?_⟩
      refine ⟨_, rfl, _, _, rfl, rfl, wide_div (b := 40) (by decide) (by decide) (by decide) (by decide), .inl ⟨_, rfl, _, rfl, _, _, rfl, rfl, hm0, ?_⟩⟩
      have m0 := Int.emod_nonneg (sd * 48271 + 12345) (show (2147483647 : Int) ≠ 0 by decide)
      have m1 := Int.emod_lt_of_pos (sd * 48271 + 12345) (show (0 : Int) < 2147483647 by decide)
      refine q _ _ (Int.emod_nonneg _ (by omega)) (Int.emod_lt_of_pos _ hm0) ⟨[], (sd * 48271 + 12345) % 2147483647, npc, upd_same, ?_, by decide, by simp, m0, by omega⟩ (Keep.atc.trans Keep.atp)
      rw [upd_ne npc.symm]
      exact upd_same
    | cons y r =>
      have hlen : (0 : Int) < ((y :: r).map V.int).length := by rw [List.length_map, List.length_cons]; omega
      rw [decide_eq_true hlen]
      refine iteT ⟨_, rfl, c, _, 0, .int y, rfl, rfl, SqL.of hc', atI_nat (j := 0) rfl, rfl, _, rfl, ite2 (fun cc => ?_) (fun cc => ?_)⟩
      · -- a nought is dropped
        refine ⟨_, fun _ _ z => z, ?_⟩
        refine ⟨_, rfl, .inl ⟨rfl, _, SqL.of hc'⟩, c, _, 0, 0, .int y, rfl, rfl, hc', by decide, by decide, seq0 (by simp), rfl, ?_⟩
        refine ⟨r.length, by simp, r, rfl, rfl, by rw [upd_upd]; rfl, by simp at hl'; omega, fun x hx => hn' x (List.mem_cons_of_mem _ hx)⟩
      · -- the first cell is drawn from
        have y0 := hn' y List.mem_cons_self
        refine ⟨_, rfl, c, _, rfl, .inl (SqL.of hc'), _, _, rfl, rfl, _, rfl, ?_⟩
        rw [decide_eq_true hlen]
        refine iteT ⟨_, rfl, c, _, 0, .int y, rfl, rfl, SqL.of hc', atI_nat (j := 0) rfl, ?_⟩
        refine ⟨_, rfl, _, rfl, _, _, rfl, rfl, wide_div hm0 hw (by decide) (by decide), ?_⟩
        refine ⟨_, rfl, c, _, 0, 0, rfl, rfl, hc', ix0 (by simp), ?_⟩
        refine ⟨_, rfl, .inl ⟨_, rfl, _, rfl, _, _, rfl, rfl, hm0, ?_⟩⟩
        refine fin y (y / many :: r) _ y0 (by simpa using hl') (fun x hx => ?_) (by rw [upd_upd]; rfl)
        rcases List.mem_cons.mp hx with rfl | hx
        · exact Int.ediv_nonneg y0 (by omega)
        · exact hn' x (List.mem_cons_of_mem _ hx)
end

theorem at_any {xs : List V} {v : Int} {n : Nat} (h0 : 0 ≤ v) (h1 : v < n) (hn : n = xs.length) : ∃ (k : Nat) (y : V), v = (k : Int) ∧ xs[k]? = some y ∧ y ∈ xs := by
  have hk : v.toNat < xs.length := by omega
  exact ⟨v.toNat, xs[v.toNat], by omega, List.getElem?_eq_getElem hk, List.getElem_mem hk⟩
theorem rev_at {us : List Int} {k : Nat} (h : k < us.length) : us.reverse[k]? = us[us.length - 1 - k]? := List.getElem?_reverse h
/-! ### what was made since: the heap of the new objects -/
def New (H H' : Hp) : Hp := fun a => match H a with
  | some _ => none
  | none => H' a
theorem New.at {H H' : Hp} {a : Addr} (h : H a = none) : New H H' a = H' a := by
  unfold New
  rw [h]
theorem New.get {H H' : Hp} {a : Addr} {x : HO} (h : New H H' a = some x) : H a = none ∧ H' a = some x := by
  unfold New at h
  cases e : H a with
  | none => rw [e] at h; exact ⟨rfl, h⟩
  | some y => rw [e] at h; cases h
theorem New.of {H H' : Hp} {a : Addr} {x : HO} (h1 : H a = none) (h2 : H' a = some x) : New H H' a = some x := (New.at h1).trans h2
/-- later on -/
theorem New.keep {p c : Addr} {H H1 H2 : Hp} (sp : ∃ x, H p = some x) (sc : ∃ x, H c = some x) (k : Keep p c H1 H2) : Same (New H H1) (New H H2) := fun a x e => by
  obtain ⟨h1, h2⟩ := New.get e
  obtain ⟨_, hp⟩ := sp
  obtain ⟨_, hc⟩ := sc
  exact New.of h1 (k a x (fun z => by rw [z, hp] at h1; cases h1) (fun z => by rw [z, hc] at h1; cases h1) h2)
/-- seen from earlier -/
theorem New.back {H H1 H2 : Hp} (d : ∀ a x, H a = some x → ∃ y, H1 a = some y) : Same (New H1 H2) (New H H2) := fun a x e => by
  obtain ⟨h1, h2⟩ := New.get e
  refine New.of ?_ h2
  cases e : H a with
  | none => rfl
  | some y =>
    obtain ⟨z, hz⟩ := d a y e
    rw [hz] at h1
    cases h1
/-- what stands stays standing, perhaps changed -/
def Dom (H H' : Hp) : Prop := ∀ a x, H a = some x → ∃ y, H' a = some y
theorem Dom.refl (H : Hp) : Dom H H := fun _ x h => ⟨x, h⟩
theorem Dom.trans {H H1 H2 : Hp} (a : Dom H H1) (b : Dom H1 H2) : Dom H H2 := fun x o h => by
  obtain ⟨y, hy⟩ := a x o h
  exact b x y hy
theorem Dom.same {H H1 : Hp} (s : Same H H1) : Dom H H1 := fun a x h => ⟨x, s a x h⟩
theorem Dom.upd {H : Hp} {a : Addr} {o : HO} : Dom H (upd H a o) := fun b x h => by
  by_cases e : b = a
  · subst e
    exact ⟨_, upd_same⟩
  · exact ⟨x, (upd_ne e).trans h⟩
theorem StOk.there {H : Hp} {p c : Addr} (s : StOk H p c) : (∃ x, H p = some x) ∧ ∃ x, H c = some x := by
  obtain ⟨ms, sd, _, h2, h3, _⟩ := s
  exact ⟨⟨_, h2⟩, ⟨_, h3⟩⟩
theorem Keep.dom {p c : Addr} {H H' : Hp} (k : Keep p c H H') (s : StOk H' p c) : Dom H H' := fun a x h => by
  by_cases e1 : a = p
  · subst e1
    exact s.there.1
  · by_cases e2 : a = c
    · subst e2
      exact s.there.2
    · exact ⟨x, k a x e1 e2 h⟩
theorem Keep.free' {p c : Addr} {H H' : Hp} (k : Keep p c H H') (s : StOk H' p c) {l : Addr} (h : H' l = none) : H l = none := Keep.free k s h
/-! ### data stands under more -/
mutual
theorem dp_same {K : PySem.W.Frag} {H H' : Hp} (s : Same H H') : ∀ {v : V} {d : PyData}, Dp K H v d → Dp K H' v d
  | _, _, .non => .non
  | _, _, .bl b => .bl b
  | _, _, .int i => .int i
  | _, _, .str x => .str x
  | _, _, .lst h a => .lst (s.seq h) (dps_same s a)
  | _, _, .tup h a => .tup (Same.seqT s h) (dps_same s a)
theorem dps_same {K : PySem.W.Frag} {H H' : Hp} (s : Same H H') : ∀ {vs : List V} {ds : List PyData}, DpAll K H vs ds → DpAll K H' vs ds
  | _, _, .nil => .nil
  | _, _, .cons a b => .cons (dp_same s a) (dps_same s b)
end
theorem dps_snoc {K : PySem.W.Frag} {H : Hp} : ∀ {vs : List V} {ds : List PyData} {v : V} {d : PyData}, DpAll K H vs ds → Dp K H v d → DpAll K H (vs ++ [v]) (ds ++ [d])
  | _, _, _, _, .nil, h => .cons h .nil
  | _, _, _, _, .cons a b, h => .cons a (dps_snoc b h)
theorem dps_len {K : PySem.W.Frag} {H : Hp} : ∀ {vs : List V} {ds : List PyData}, DpAll K H vs ds → vs.length = ds.length
  | _, _, .nil => rfl
  | _, _, .cons _ b => by rw [List.length_cons, List.length_cons, dps_len b]
/-! ### expressions and statements as data -/
def Word (a : Int) : Prop := 0 ≤ a ∧ a < 4294967296
inductive Ex
  | num (n : Int)
  | cell (s : Str)
  | at (s : Str) (i : Ex)
  | un (k : Str) (a : Ex)
  | bin (k : Str) (a b : Ex)
def Ex.depth : Ex → Nat
  | num _ => 1
  | cell _ => 1
  | «at» _ i => 1 + i.depth
  | un _ a => 1 + a.depth
  | bin _ a b => 1 + max a.depth b.depth
def Ex.d : Ex → PyData
  | num n => .tuple [.str "num", .int n]
  | cell s => .tuple [.str "cell", .str s]
  | «at» s i => .tuple [.str "at", .str s, i.d]
  | un k a => .tuple [.str k, a.d]
  | bin k a b => .tuple [.str k, a.d, b.d]
def UNS : List Str := ["neg", "inv", "not"]
def BINS : List Str := ["+", "-", "*", "/", "mod", "&", "|", "^", "<<", ">>", "<", "<=", "~<", "~<=", "==", "!=", "and", "or"]
structure Env where
  cells : List (Str × Int)
  vars : List Str
  ports : List (Str × Str)
  calls : List (Str × Str × Nat)
  loops : Int
/-- an expression over the names of env -/
def ExW (g : Env) : Ex → Prop
  | .num n => Word n
  | .cell s => (s, 0) ∈ g.cells ∨ s ∈ g.vars
  | .at s i => (∃ z : Int, 0 < z ∧ (s, z) ∈ g.cells) ∧ ExW g i
  | .un k a => k ∈ UNS ∧ ExW g a
  | .bin k a b => k ∈ BINS ∧ ExW g a ∧ ExW g b
inductive Pl
  | cell (s : Str)
  | at (s : Str) (i : Ex)
def Pl.d : Pl → PyData
  | cell s => .tuple [.str "cell", .str s]
  | «at» s i => .tuple [.str "at", .str s, i.d]
def PlW (g : Env) : Pl → Prop
  | .cell s => (s, 0) ∈ g.cells
  | .at s i => (∃ z : Int, 0 < z ∧ (s, z) ∈ g.cells) ∧ ExW g i ∧ i.depth ≤ 2
def optD : Option PyData → PyData
  | none => .none
  | some d => d
inductive Stm
  | set (p : Pl) (e : Ex)
  | ifs (e : Ex) (a b : List Stm)
  | loop (name : Str) (count : Int) (e : Option Ex) (body : List Stm)
  | call (p : Option Pl) (o op : Str) (args : List Ex)
  | read (p : Pl) (port : Str)
  | write (port : Str) (e : Ex)
mutual
def Stm.d : Stm → PyData
  | .set p e => .tuple [.str "set", p.d, e.d]
  | .ifs e a b => .tuple [.str "if", e.d, .list (stmsD a), .list (stmsD b)]
  | .loop n k e b => .tuple [.str "loop", .str n, .int k, optD (e.map Ex.d), .list (stmsD b)]
  | .call p o op as => .tuple [.str "call", optD (p.map Pl.d), .str o, .str op, .list (as.map Ex.d)]
  | .read p t => .tuple [.str "read", p.d, .str t]
  | .write t e => .tuple [.str "write", .str t, e.d]
def stmsD : List Stm → List PyData
  | [] => []
  | s :: r => s.d :: stmsD r
end
def loopName (n : Nat) : Str := ("i" : Str) ++ (Str.ofString (toString (n : Int)))
mutual
/-- a statement that the law may draw at this nesting -/
def StW (g : Env) : Nat → Stm → Prop
  | _, .set p e => PlW g p ∧ ExW g e ∧ e.depth ≤ 3
  | n + 1, .ifs e a b => ExW g e ∧ e.depth ≤ 2 ∧ BodyW g n a ∧ BodyW g n b
  | 0, .ifs _ _ _ => False
  | n + 1, .loop x k e b => x = loopName (n + 1) ∧ 0 < g.loops ∧ 1 ≤ k ∧ k ≤ 4 ∧ (∀ f, e = some f → ExW g f ∧ f.depth ≤ 2) ∧ BodyW { g with vars := g.vars ++ [x], loops := g.loops - 1 } n b
  | 0, .loop _ _ _ _ => False
  | _, .call p o op as => (o, op, as.length) ∈ g.calls ∧ (∀ e ∈ as, ExW g e ∧ e.depth ≤ 2) ∧ ∀ q, p = some q → PlW g q
  | _, .read p t => PlW g p ∧ (("in" : Str), t) ∈ g.ports
  | _, .write t e => (("out" : Str), t) ∈ g.ports ∧ ExW g e ∧ e.depth ≤ 3
def BodyW (g : Env) (n : Nat) (b : List Stm) : Prop := b.length ≤ n + 1 ∧ StmsW g n b
def StmsW (g : Env) : Nat → List Stm → Prop
  | _, [] => True
  | n, s :: r => StW g n s ∧ StmsW g n r
end

/-! ### what the law draws -/
section
variable {P : Program} {w : World} {K : PySem.W.Frag} {mg : Str → Option Value} {base : Heap}
/-- a tuple or list of the heap that the draws leave alone -/
structure Off (H : Hp) (p c a : Addr) : Prop where
  p : a ≠ p
  c : a ≠ c
def sp__law_pick : Sp := fun vs H Q _ => ∃ (p c l : Addr) (xs : List V), vs = [.ref p, .ref l] ∧ StOk H p c ∧ H l = some (.lst xs) ∧ xs ≠ [] ∧ xs.length ≤ 100000 ∧ l ≠ p ∧ l ≠ c ∧ ∀ y ∈ xs, ∀ H', StOk H' p c → Keep p c H H' → Q y H'
theorem ok__law_pick (T : Top K mg) : FnOk P w K mg base CX0 2 T.a__law_pick T.d__law_pick ["state", "row"]  sp__law_pick := by
  refine T.F__law_pick.ok sc__law_pick (fun vs H Q E h => ?_) (fun cdv A outer s H vs Q E hr h => ?_)
  · obtain ⟨_, _, _, _, rfl, _⟩ := h
    rfl
  · obtain ⟨p, c, l, xs, rfl, st, hl, ne, xl, lp, lc, q⟩ := h
    refine ⟨_, (pss_one (ps_ret (pe_ix ix_list (pv 1) (pe_call (ok__law_draw T) (hr.mono (by decide)) (by rfl) T.g__law_draw T.F__law_draw.kp T.b__law_draw .nil pass0 (pa_cons (pv 0) (pa_cons (pe_callB call_len_seq (by rfl) T.m_len PySem.boot_len (pa_cons (pv 1) pa_nil)) pa_nil))) (fun _ _ => rfl)))), ?_⟩
    have x0 : 0 < xs.length := by
      cases xs with
      | nil => exact absurd rfl ne
      | cons _ _ => simp
    refine ⟨_, rfl, _, rfl, _, rfl, l, _, rfl, .inl (SqL.of hl), p, c, _, rfl, st, by omega, by omega, fun v H1 v0 v1 st1 k1 => ?_⟩
    obtain ⟨j, y, ej, hy, my⟩ := at_any (xs := xs) (n := xs.length) v0 v1 rfl
    exact ⟨l, _, _, y, rfl, rfl, SqL.of (k1 _ _ lp lc hl), at_of ej hy, q y my H1 st1 k1⟩
def sp__law_word : Sp := fun vs H Q _ => ∃ (p c : Addr), vs = [.ref p] ∧ StOk H p c ∧ ∀ (n : Int) H', Word n → StOk H' p c → Keep p c H H' → Q (.int n) H'
theorem ok__law_word (T : Top K mg) : FnOk P w K mg base CX0 3 T.a__law_word T.d__law_word ["state"]  sp__law_word := by
  refine T.F__law_word.ok sc__law_word (fun vs H Q E h => ?_) (fun cdv A outer s H vs Q E hr h => ?_)
  · obtain ⟨_, _, rfl, _⟩ := h
    rfl
  · obtain ⟨p, c, rfl, st, q⟩ := h
    refine ⟨_, (pss_cons (ps_set (i := 1) sc__law_word.nd rfl (by first | exact Or.inl rfl | exact Or.inr rfl) (pe_lst (pa_cons pe_int (pa_cons pe_int (pa_cons pe_int (pa_cons pe_int (pa_cons pe_int (pa_cons pe_int (pa_cons pe_int (pa_cons pe_int pa_nil))))))))))
  (pss_cons (ps_if (pt_cmpR op_eq (pe_call (ok__law_draw T) (hr.mono (by decide)) (by rfl) T.g__law_draw T.F__law_draw.kp T.b__law_draw .nil pass0 (pa_cons (pv 0) (pa_cons pe_int pa_nil))) pe_int (nomark _))
  (pss_one (ps_ret (pe_call (ok__law_pick T) (hr.mono (by decide)) (by rfl) T.g__law_pick T.F__law_pick.kp T.b__law_pick .nil pass0 (pa_cons (pv 0) (pa_cons (pv 1) pa_nil)))))
  pss_nil)
  (pss_one (ps_ret (pe_call (ok__law_draw T) (hr.mono (by decide)) (by rfl) T.g__law_draw T.F__law_draw.kp T.b__law_draw .nil pass0 (pa_cons (pv 0) (pa_cons (pe_call (ok__law_pick T) (hr.mono (by decide)) (by rfl) T.g__law_pick T.F__law_pick.kp T.b__law_pick .nil pass0 (pa_cons (pv 0) (pa_cons (pe_lst (pa_cons pe_int (pa_cons pe_int pa_nil))) pa_nil))) pa_nil))))))), ?_⟩
    refine ⟨by show 8 ≤ sizeLine; decide, fun l nl => ?_⟩
    have s1 := same_new (o := .lst [.int 0, .int 1, .int 32768, .int 65535, .int 65536, .int 2147483647, .int 2147483648, .int 4294967295]) nl
    refine ⟨_, rfl, p, c, 3, rfl, st.same s1, by decide, by decide, fun v1 H1 a1 b1 st1 k1 => ?_⟩
    obtain ⟨lp, lc⟩ := st.ne nl
    have k01 := (Keep.same (p := p) (c := c) s1).trans k1
    refine ⟨rfl, _, rfl, ite2 (fun c1 => ?_) (fun c1 => ?_)⟩
    · refine ⟨_, rfl, _, rfl, p, c, l, _, rfl, st1, k1 _ _ lp lc upd_same, by simp, by decide, lp, lc, fun y my H2 st2 k2 => ?_⟩
      obtain ⟨n, rfl, hn⟩ : ∃ n : Int, y = .int n ∧ Word n := by
        simp only [List.mem_cons, List.mem_nil_iff, or_false] at my
        rcases my with rfl | rfl | rfl | rfl | rfl | rfl | rfl | rfl <;> exact ⟨_, rfl, by decide, by decide⟩
      exact q n H2 hn st2 (k01.trans k2)
    · refine ⟨_, rfl, _, rfl, by show 2 ≤ sizeLine; decide, fun l2 nl2 => ?_⟩
      obtain ⟨l2p, l2c⟩ := st1.ne nl2
      have s2 := same_new (o := .lst [.int 7, .int 4294967296]) nl2
      refine ⟨p, c, l2, _, rfl, st1.same s2, upd_same, by simp, by decide, l2p, l2c, fun y my H2 st2 k2 => ?_⟩
      obtain ⟨n, rfl, h1, h2⟩ : ∃ n : Int, y = .int n ∧ 0 < n ∧ n ≤ 4294967296 := by
        simp only [List.mem_cons, List.mem_nil_iff, or_false] at my
        rcases my with rfl | rfl <;> exact ⟨_, rfl, by decide, by decide⟩
      refine ⟨p, c, n, rfl, st2, h1, by omega, fun v3 H3 a3 b3 st3 k3 => ?_⟩
      exact q v3 H3 ⟨a3, by omega⟩ st3 (k01.trans ((Keep.same s2).trans (k2.trans k3)))
end

section
variable {P : Program} {w : World} {K : PySem.W.Frag} {mg : Str → Option Value} {base : Heap}
/-- the names that an expression may use, as they lie in the heap -/
def EnvAt (K : PySem.W.Frag) (N : Hp) (e : Addr) (g : Env) : Prop := ∃ C V' Po Ca : Addr, N e = some (.lst [.ref C, .ref V', .ref Po, .ref Ca, .int g.loops]) ∧
  (∃ ts : List Addr, N C = some (.lst (ts.map V.ref)) ∧ ts.length = g.cells.length ∧ ∀ (i : Nat) (t : Addr) (q : Str × Int), ts[i]? = some t → g.cells[i]? = some q → SqT K N t [.str q.1, .int q.2]) ∧
  N V' = some (.lst (g.vars.map V.str)) ∧
  (∃ ts : List Addr, N Po = some (.lst (ts.map V.ref)) ∧ ts.length = g.ports.length ∧ ∀ (i : Nat) (t : Addr) (q : Str × Str), ts[i]? = some t → g.ports[i]? = some q → SqT K N t [.str q.1, .str q.2]) ∧
  ∃ ts : List Addr, N Ca = some (.lst (ts.map V.ref)) ∧ ts.length = g.calls.length ∧ ∀ (i : Nat) (t : Addr) (q : Str × Str × Nat), ts[i]? = some t → g.calls[i]? = some q → SqT K N t [.str q.1, .str q.2.1, .int q.2.2]
theorem EnvAt.same {N N' : Hp} {e : Addr} {g : Env} (h : EnvAt K N e g) (s : Same N N') : EnvAt K N' e g := by
  obtain ⟨C, V', Po, Ca, h1, ⟨ts, h2, h3, h4⟩, h5, ⟨us, h6, h7, h8⟩, ⟨vs, h9, h10, h11⟩⟩ := h
  exact ⟨C, V', Po, Ca, s _ _ h1, ⟨ts, s _ _ h2, h3, fun i t q a b => Same.seqT s (h4 i t q a b)⟩, s _ _ h5, ⟨us, s _ _ h6, h7, fun i t q a b => Same.seqT s (h8 i t q a b)⟩, ⟨vs, s _ _ h9, h10, fun i t q a b => Same.seqT s (h11 i t q a b)⟩⟩
theorem New.sub {H H' : Hp} : Same (New H H') H' := fun _ _ e => (New.get e).2
/-- where a law's drawing stands: the state at p and c, which the old heaps He (of the names) and H0 (of what is made) have -/
structure Here (He H0 H : Hp) (p c : Addr) : Prop where
  st : StOk H p c
  ep : ∃ x, He p = some x
  ec : ∃ x, He c = some x
  op : ∃ x, H0 p = some x
  oc : ∃ x, H0 c = some x
  dom : Dom H0 H
theorem Here.keep {He H0 H H' : Hp} {p c : Addr} (h : Here He H0 H p c) (k : Keep p c H H') (s : StOk H' p c) : Here He H0 H' p c := ⟨s, h.ep, h.ec, h.op, h.oc, h.dom.trans (k.dom s)⟩
theorem Here.new {He H0 H : Hp} {p c a : Addr} (h : Here He H0 H p c) (n : H a = none) : H0 a = none := by
  cases e : H0 a with
  | none => rfl
  | some x =>
    obtain ⟨y, hy⟩ := h.dom a x e
    rw [n] at hy
    cases hy
def exSize (g : Env) : Prop := g.cells.length ≤ 100 ∧ g.vars.length ≤ 100 ∧ g.ports.length ≤ 100 ∧ g.calls.length ≤ 100
def sp__law_expr (K : PySem.W.Frag) (d : Nat) : Sp := fun vs H Q _ => ∃ (He H0 : Hp) (p c e : Addr) (g : Env) (deep : Int), vs = [.ref p, .ref e, .int deep] ∧ Here He H0 H p c ∧ EnvAt K (New He H) e g ∧ exSize g ∧ deep ≤ d + 1 ∧
  ∀ (v : V) (x : Ex) (H' : Hp), Dp K (New H0 H') v x.d → ExW g x → (x.depth : Int) ≤ max 1 deep → StOk H' p c → Keep p c H H' → Q v H'
/-- a pair of a kind and a name, made anew -/
def CellRow (H0 H : Hp) (g : Env) (y : V) : Prop := ∃ (T : Addr) (s : Str), y = .ref T ∧ H0 T = none ∧ H T = some (.tup [.str "cell", .str s]) ∧ ((s, 0) ∈ g.cells ∨ s ∈ g.vars)
theorem CellRow.same {H0 H H' : Hp} {g : Env} {y : V} (h : CellRow H0 H g y) (k : ∀ a xs, H a = some (.tup xs) → H' a = some (.tup xs)) : CellRow H0 H' g y := by
  obtain ⟨T, s, h1, h2, h3, h4⟩ := h
  exact ⟨T, s, h1, h2, k _ _ h3, h4⟩
theorem CellRow.dp {H0 H : Hp} {g : Env} {y : V} (h : CellRow H0 H g y) : ∃ x : Ex, Dp K (New H0 H) y x.d ∧ ExW g x ∧ x.depth = 1 := by
  obtain ⟨T, s, rfl, h2, h3, h4⟩ := h
  exact ⟨.cell s, .tup (SqT.of (New.of h2 h3)) (.cons (.str _) (.cons (.str _) .nil)), h4, rfl⟩
/-- the rows under way in the list D -/
def RowsInv (H0 H1 : Hp) (g : Env) (D : Addr) (i : Nat) (H' : Hp) : Prop := ∃ xs : List V, H' D = some (.lst xs) ∧ xs.length ≤ i ∧ (∀ y ∈ xs, CellRow H0 H' g y) ∧ Same H1 H'
theorem RowsInv.zero {H0 H1 : Hp} {g : Env} {D : Addr} (n : H1 D = none) : RowsInv H0 H1 g D 0 (upd H1 D (.lst [])) := ⟨[], upd_same, Nat.le_refl _, by simp, same_new n⟩
theorem RowsInv.skip {H0 H1 H' : Hp} {g : Env} {D : Addr} {i : Nat} (h : RowsInv H0 H1 g D i H') : RowsInv H0 H1 g D (i + 1) H' := by
  obtain ⟨xs, a, b, c, d⟩ := h
  exact ⟨xs, a, Nat.le_succ_of_le b, c, d⟩
theorem RowsInv.same {H0 H1 H' : Hp} {g : Env} {D : Addr} {i : Nat} (h : RowsInv H0 H1 g D i H') : Same H1 H' := by
  obtain ⟨_, _, _, _, d⟩ := h
  exact d
theorem RowsInv.step {H0 H1 H' : Hp} {g : Env} {D T : Addr} {i : Nat} {s : Str} (h : RowsInv H0 H1 g D i H') (nD : H1 D = none) (nT : H' T = none) (n0 : H0 T = none) (hs : (s, 0) ∈ g.cells ∨ s ∈ g.vars) :
    ∃ ys, (upd H' T (.tup [.str "cell", .str s])) D = some (.lst ys) ∧ ys.length ≤ i ∧ RowsInv H0 H1 g D (i + 1) (upd (upd H' T (.tup [.str "cell", .str s])) D (.lst (ys ++ [.ref T]))) := by
  obtain ⟨xs, a, b, c, d⟩ := h
  have TD : T ≠ D := (ne_of_none a nT).symm
  have keep : ∀ q zs, H' q = some (.tup zs) → (upd (upd H' T (.tup [.str "cell", .str s])) D (.lst (xs ++ [.ref T]))) q = some (.tup zs) := fun q zs e => by
    rw [upd_ne (ne_of e a (by intro z; cases z)), upd_ne (ne_of_none e nT)]
    exact e
  refine ⟨xs, by rw [upd_ne TD.symm]; exact a, b, xs ++ [.ref T], upd_same, by rw [List.length_append, List.length_singleton]; omega, fun y hy => ?_, fun q z e => ?_⟩
  · rcases List.mem_append.mp hy with hy | hy
    · exact (c y hy).same keep
    · rw [List.mem_singleton.mp hy]
      exact ⟨T, s, rfl, n0, by rw [upd_ne TD]; exact upd_same, hs⟩
  · rw [upd_ne (ne_of_none e nD), upd_ne (ne_of_none (d q z e) nT)]
    exact d q z e
theorem step__law_expr (T : Top K mg) {d : Nat} {sp' : Sp} (ih : FnOk P w K mg base CX0 (3 + d) T.a__law_expr T.d__law_expr ["state", "env", "deep"] sp') (imp : ∀ (d' : Nat) vs H Q E, d = d' + 1 → sp__law_expr K d' vs H Q E → sp' vs H Q E) :
    FnOk P w K mg base CX0 (3 + d + 1) T.a__law_expr T.d__law_expr ["state", "env", "deep"] (sp__law_expr K d) := by
  refine T.F__law_expr.ok sc__law_expr (fun vs H Q E h => ?_) (fun cdv A outer s H vs Q E hr h => ?_)
  · obtain ⟨_, _, _, _, _, _, _, rfl, _⟩ := h
    rfl
  · obtain ⟨He, H0, p, c, e, g, deep, rfl, st, en, gz, dd, q⟩ := h
    refine ⟨_, (pss_cons (ps_set (i := 3) sc__law_expr.nd rfl (by first | exact Or.inl rfl | exact Or.inr rfl) (pe_lst (pa_cons pe_str (pa_cons pe_str (pa_cons pe_str (pa_cons pe_str (pa_cons pe_str (pa_cons pe_str (pa_cons pe_str (pa_cons pe_str (pa_cons pe_str (pa_cons pe_str (pa_cons pe_str (pa_cons pe_str (pa_cons pe_str (pa_cons pe_str (pa_cons pe_str (pa_cons pe_str (pa_cons pe_str (pa_cons pe_str pa_nil))))))))))))))))))))
  (pss_cons (ps_set (i := 4) sc__law_expr.nd rfl (by first | exact Or.inl rfl | exact Or.inr rfl) (pe_call (ok__law_draw T) (hr.mono (by show _ ≤ 3 + d; omega)) (by rfl) T.g__law_draw T.F__law_draw.kp T.b__law_draw .nil pass0 (pa_cons (pv 0) (pa_cons pe_int pa_nil))))
  (pss_cons (ps_if (pw_or (pt_cmpR op_le (pv 2) pe_int (nomark _)) (pw_or1 (pt_cmpR op_lt (pv 4) pe_int (nomark _)))).pt
  (pss_cons (ps_set (i := 5) sc__law_expr.nd rfl (by first | exact Or.inl rfl | exact Or.inr rfl) (pe_op op_cat (pe_lc (own := [("name", 6), ("size", 7)]) (g := (gTup K 2 (gCons (gName 6) (gCons (gName 7) gNil)))) rfl sc__law_expr.nd (pi_list (pe_ix ix_list (pv 1) pe_int (fun _ _ => rfl))) (blkOk_by (N := ["state", "env", "deep", "signs", "kind", "rows", "name", "size", "first"]) (sc := defScope s__law_expr) (by decide +kernel)) (fun _ _ _ _ _ => (pg_tup rfl (pgs_cons (pg_name (i := 6) sc__law_expr.nd rfl (Or.inl rfl)) (pgs_cons (pg_name (i := 7) sc__law_expr.nd rfl (Or.inl rfl)) pgs_nil)))) (fun _ _ _ _ _ => pts_one (pt_cmpR op_eq (pv 7) pe_int (nomark _))) (fun _ _ _ _ _ => (pe_tup (pa_cons pe_str (pa_cons (pv 6) pa_nil))))) (pe_lc (own := [("name", 6)]) (g := gName 6) (tt := tYes) rfl sc__law_expr.nd (pi_list (pe_ix ix_list (pv 1) pe_int (fun _ _ => rfl))) (blkOk_by (N := ["state", "env", "deep", "signs", "kind", "rows", "name", "size", "first"]) (sc := defScope s__law_expr) (by decide +kernel)) (fun _ _ _ _ _ => pg_name (i := 6) sc__law_expr.nd rfl (Or.inl rfl)) (fun _ _ _ _ _ => pts_nil) (fun _ _ _ _ _ => (pe_tup (pa_cons pe_str (pa_cons (pv 6) pa_nil)))))))
  (pss_cons (ps_if (pw_or (pt_cmpR op_eq (pe_callB call_len_seq (by rfl) T.m_len PySem.boot_len (pa_cons (pv 5) pa_nil)) pe_int (nomark _)) (pw_or1 (pt_cmpR op_eq (pe_call (ok__law_draw T) (hr.mono (by show _ ≤ 3 + d; omega)) (by rfl) T.g__law_draw T.F__law_draw.kp T.b__law_draw .nil pass0 (pa_cons (pv 0) (pa_cons pe_int pa_nil))) pe_int (nomark _)))).pt
  (pss_one (ps_ret (pe_tup (pa_cons pe_str (pa_cons (pe_call (ok__law_word T) (hr.mono (by show _ ≤ 3 + d; omega)) (by rfl) T.g__law_word T.F__law_word.kp T.b__law_word .nil pass0 (pa_cons (pv 0) pa_nil)) pa_nil)))))
  pss_nil)
  (pss_one (ps_ret (pe_call (ok__law_pick T) (hr.mono (by show _ ≤ 3 + d; omega)) (by rfl) T.g__law_pick T.F__law_pick.kp T.b__law_pick .nil pass0 (pa_cons (pv 0) (pa_cons (pv 5) pa_nil)))))))
  pss_nil)
  (pss_cons (ps_setLc (i := 5) (own := [("name", 6), ("size", 7)]) (g := (gTup K 2 (gCons (gName 6) (gCons (gName 7) gNil)))) rfl sc__law_expr.nd rfl rfl (sw_true rfl rfl rfl (by decide +kernel)) (pi_list (pe_ix ix_list (pv 1) pe_int (fun _ _ => rfl))) (blkOk_by (N := ["state", "env", "deep", "signs", "kind", "rows", "name", "size", "first"]) (sc := defScope s__law_expr) (by decide +kernel)) (fun _ _ _ _ _ => (pg_tup rfl (pgs_cons (pg_name (i := 6) sc__law_expr.nd rfl (Or.inl rfl)) (pgs_cons (pg_name (i := 7) sc__law_expr.nd rfl (Or.inl rfl)) pgs_nil)))) (fun _ _ _ _ _ => pts_one (pt_cmpR op_gt (pv 7) pe_int (nomark _))) (fun _ _ _ _ _ => (pv 6)))
  (pss_cons (ps_if (pw_and (pt_cmpR op_eq (pv 4) pe_int (nomark _)) (pw_and1 (pt_cmpR op_gt (pe_callB call_len_seq (by rfl) T.m_len PySem.boot_len (pa_cons (pv 5) pa_nil)) pe_int (nomark _)))).pt
  (pss_one (ps_ret (pe_tup (pa_cons pe_str (pa_cons (pe_call (ok__law_pick T) (hr.mono (by show _ ≤ 3 + d; omega)) (by rfl) T.g__law_pick T.F__law_pick.kp T.b__law_pick .nil pass0 (pa_cons (pv 0) (pa_cons (pv 5) pa_nil))) (pa_cons (pe_call ih (hr.mono (by show _ ≤ 3 + d; omega)) (by rfl) T.g__law_expr T.F__law_expr.kp T.b__law_expr .nil pass0 (pa_cons (pv 0) (pa_cons (pv 1) (pa_cons (pe_op op_sub (pv 2) pe_int) pa_nil)))) pa_nil))))))
  pss_nil)
  (pss_cons (ps_if (pt_cmpR op_eq (pv 4) pe_int (nomark _))
  (pss_one (ps_ret (pe_tup (pa_cons (pe_call (ok__law_pick T) (hr.mono (by show _ ≤ 3 + d; omega)) (by rfl) T.g__law_pick T.F__law_pick.kp T.b__law_pick .nil pass0 (pa_cons (pv 0) (pa_cons (pe_lst (pa_cons pe_str (pa_cons pe_str (pa_cons pe_str pa_nil)))) pa_nil))) (pa_cons (pe_call ih (hr.mono (by show _ ≤ 3 + d; omega)) (by rfl) T.g__law_expr T.F__law_expr.kp T.b__law_expr .nil pass0 (pa_cons (pv 0) (pa_cons (pv 1) (pa_cons (pe_op op_sub (pv 2) pe_int) pa_nil)))) pa_nil)))))
  pss_nil)
  (pss_cons (ps_set (i := 8) sc__law_expr.nd rfl (by first | exact Or.inl rfl | exact Or.inr rfl) (pe_call ih (hr.mono (by show _ ≤ 3 + d; omega)) (by rfl) T.g__law_expr T.F__law_expr.kp T.b__law_expr .nil pass0 (pa_cons (pv 0) (pa_cons (pv 1) (pa_cons (pe_op op_sub (pv 2) pe_int) pa_nil)))))
  (pss_one (ps_ret (pe_tup (pa_cons (pe_call (ok__law_pick T) (hr.mono (by show _ ≤ 3 + d; omega)) (by rfl) T.g__law_pick T.F__law_pick.kp T.b__law_pick .nil pass0 (pa_cons (pv 0) (pa_cons (pv 3) pa_nil))) (pa_cons (pv 8) (pa_cons (pe_call ih (hr.mono (by show _ ≤ 3 + d; omega)) (by rfl) T.g__law_expr T.F__law_expr.kp T.b__law_expr .nil pass0 (pa_cons (pv 0) (pa_cons (pv 1) (pa_cons (pe_op op_sub (pv 2) pe_int) pa_nil)))) pa_nil))))))))))))), ?_⟩
    refine ⟨by show 18 ≤ sizeLine; decide, fun sg nsg => ?_⟩
    have s1 := same_new (o := .lst (BINS.map V.str)) nsg
    have st1 := st.keep (Keep.same s1) (st.st.same s1)
    refine ⟨_, rfl, p, c, 6, rfl, st1.st, by decide, by decide, fun kind H1 a1 b1 sk1 k1 => ?_⟩
    have st2 := st1.keep k1 sk1
    have sgo := st.st.ne nsg
    have hsg : H1 sg = some (.lst (BINS.map V.str)) := k1 _ _ sgo.1 sgo.2 upd_same
    have k01 := (Keep.same (p := p) (c := c) s1).trans k1
    have en1 : EnvAt K (New He H1) e g := en.same (New.keep st.ep st.ec k01)
    obtain ⟨C, V', Po, Ca, e1, ⟨ts, c1, c2, c3⟩, v1, _, _⟩ := en1
    have he1 := (New.get e1).2
    have hC1 := (New.get c1).2
    have hV1 := (New.get v1).2
    dsimp only [gName, tSeq]
    refine if_or (a := decide (deep ≤ 1)) (b := decide (kind < 2)) (fun Q' q' => ⟨_, rfl, _, _, rfl, rfl, _, rfl, q'⟩) (fun _ Q' q' => ⟨_, rfl, _, _, rfl, rfl, _, rfl, q'⟩) (ite2 (fun cc => ?_) (fun cc => ?_))
    · refine ⟨_, rfl, e, _, 0, .ref C, rfl, rfl, SqL.of he1, at_of (j := 0) rfl rfl, C, rfl, ⟨_, SqL.of hC1⟩, fun D nD => ?_⟩
      refine lc_list (xs := ts.map V.ref) (RowsInv H0 H1 g D) (RowsInv.zero nD) (fun i H' _ ci => SqL.of (ci.same _ _ hC1)) ?_ ?_
      · intro i v H' hv ci
        obtain ⟨t, ht, rfl⟩ : ∃ t, ts[i]? = some t ∧ V.ref t = v := by
          rw [List.getElem?_map] at hv
          cases e : ts[i]? with
          | none => rw [e] at hv; cases hv
          | some l => rw [e] at hv; exact ⟨l, rfl, Option.some.inj hv⟩
        have il : i < g.cells.length := by
          rw [← c2]
          exact (List.getElem?_eq_some_iff.mp ht).1
        have hT := Same.seqT ci.same (Same.seqT New.sub (c3 i t _ ht (List.getElem?_eq_getElem il)))
        refine ⟨t, _, rfl, hT, rfl, _, _, rfl, _, _, rfl, rfl, rfl, ?_⟩
        refine ⟨_, rfl, rfl, _, rfl, ite2 (fun c4 => ?_) (fun c4 => ?_)⟩
        · refine ⟨_, rfl, by show 2 ≤ sizeLine; decide, fun T2 nT => ?_⟩
          have sz := V.int.inj (of_decide_eq_true c4)
          obtain ⟨ys, y1, yl, y3⟩ := ci.step (s := (g.cells[i]).1) nD nT (st2.new (ci.same.free nT)) (.inl (by rw [← sz]; exact List.getElem_mem il))
          exact ⟨ys, y1, small1000 (by have := gz.1; omega), y3⟩
        · exact ci.skip
      · intro H2 ci
        obtain ⟨xs, x1, x2, x3, s2⟩ := ci
        have he2 := s2 _ _ he1
        have hV2 := s2 _ _ hV1
        refine ⟨_, rfl, e, _, 1, .ref V', rfl, rfl, SqL.of he2, at_of (j := 1) rfl rfl, V', rfl, ⟨_, SqL.of hV2⟩, fun D2 nD2 => ?_⟩
        have D12 : D ≠ D2 := ne_of_none x1 nD2
        refine lc_list (xs := g.vars.map V.str) (RowsInv H0 H2 g D2) (RowsInv.zero nD2) (fun i H' _ ci => SqL.of (ci.same _ _ hV2)) ?_ ?_
        · intro i v H' hv ci
          obtain ⟨nm, hn, rfl⟩ : ∃ nm, g.vars[i]? = some nm ∧ V.str nm = v := by
            rw [List.getElem?_map] at hv
            cases e : g.vars[i]? with
            | none => rw [e] at hv; cases hv
            | some l => rw [e] at hv; exact ⟨l, rfl, Option.some.inj hv⟩
          refine ⟨rfl, ?_⟩
          refine ⟨_, rfl, by show 2 ≤ sizeLine; decide, fun T2 nT => ?_⟩
          have n2 : H2 T2 = none := ci.same.free nT
          obtain ⟨ys, y1, yl, y3⟩ := ci.step (s := nm) nD2 nT (st2.new (s2.free n2)) (.inr (List.mem_of_getElem? hn))
          have il : i < g.vars.length := (List.getElem?_eq_some_iff.mp hn).1
          exact ⟨ys, y1, small1000 (by have := gz.2.1; omega), y3⟩
        · intro H3 ci3
          obtain ⟨xs3, z1, z2, z3, s3⟩ := ci3
          rw [List.length_map] at x2 z2
          obtain ⟨g1, g2, _⟩ := gz
          refine ⟨D, D2, _, _, rfl, rfl, s3 _ _ x1, z1, ?_, fun R nR => ?_⟩
          · exact Nat.le_of_lt (small1000 (by omega))
          have s4 := same_new (o := .lst (xs ++ xs3)) nR
          have st4 : StOk (upd H3 R (.lst (xs ++ xs3))) p c := ((sk1.same s2).same s3).same s4
          have k4 : Keep p c H (upd H3 R (.lst (xs ++ xs3))) := k01.trans (Keep.same ((s2.trans s3).trans s4))
          have rows : ∀ y ∈ xs ++ xs3, CellRow H0 (upd H3 R (.lst (xs ++ xs3))) g y := fun y hy => by
            rcases List.mem_append.mp hy with hy | hy
            · exact (x3 y hy).same fun a zs h => s4 _ _ (s3 _ _ h)
            · exact (z3 y hy).same fun a zs h => s4 _ _ h
          have num : ∀ (n : Int) H6 T2, Word n → StOk H6 p c → Keep p c H H6 → H6 T2 = none → Q (.ref T2) (upd H6 T2 (.tup [.str "num", .int n])) := fun n H6 T2 hn st6 k6 nT => by
            have k7 := k6.trans (Keep.same (same_new (o := .tup [.str "num", .int n]) nT))
            exact q _ (.num n) _ (.tup (SqT.of (New.of ((st.keep k6 st6).new nT) upd_same)) (.cons (.str _) (.cons (.int _) .nil))) hn (by show (1 : Int) ≤ _; omega) (st6.same (same_new nT)) k7
          have nR3 : H3 R = none := nR
          have Ro := ((sk1.same s2).same s3).ne nR
          refine ⟨_, rfl, R, _, rfl, .inl (SqL.of upd_same), rfl, _, rfl, ite2 (fun c5 => iteT ?_) (fun c5 => ?_)⟩
          · exact ⟨_, rfl, p, c, rfl, st4, fun n H6 hn st6 k6 => ⟨by show 2 ≤ sizeLine; decide, fun T2 nT => num n H6 T2 hn st6 (k4.trans k6) nT⟩⟩
          · refine ⟨_, rfl, p, c, 3, rfl, st4, by decide, by decide, fun v5 H5 _ _ st5 k5 => ⟨rfl, _, rfl, ite2 (fun c6 => ?_) (fun c6 => ?_)⟩⟩
            · exact ⟨_, rfl, p, c, rfl, st5, fun n H6 hn st6 k6 => ⟨by show 2 ≤ sizeLine; decide, fun T2 nT => num n H6 T2 hn st6 ((k4.trans k5).trans k6) nT⟩⟩
            · refine ⟨_, rfl, _, rfl, p, c, R, _, rfl, st5, k5 _ _ Ro.1 Ro.2 upd_same, ?_, ?_, Ro.1, Ro.2, fun y my H6 st6 k6 => ?_⟩
              · intro z
                exact c5 (decide_eq_true (by rw [z]; rfl))
              · rw [List.length_append]
                omega
              · have kk : ∀ a zs, (upd H3 R (.lst (xs ++ xs3))) a = some (.tup zs) → H6 a = some (.tup zs) := fun a zs h => by
                  obtain ⟨ms, sd, _, hp, hc, _⟩ := st4
                  exact (k5.trans k6) a _ (ne_of h hp (by intro z; cases z)) (ne_of h hc (by intro z; cases z)) h
                obtain ⟨x, h1, h2, h3⟩ := ((rows y my).same kk).dp (K := K)
                exact q y x H6 h1 h2 (by rw [h3]; show (1 : Int) ≤ _; omega) st6 (k4.trans (k5.trans k6))
    · have cd : ¬ deep ≤ 1 := fun z => cc (by rw [decide_eq_true z]; rfl)
      obtain ⟨d', rfl⟩ : ∃ d', d = d' + 1 := ⟨d - 1, by omega⟩
      refine ⟨_, rfl, e, _, 0, .ref C, rfl, rfl, SqL.of he1, at_of (j := 0) rfl rfl, C, rfl, ⟨_, SqL.of hC1⟩, fun D nD => ?_⟩
      refine lc_list (xs := ts.map V.ref) (fun i H' => ∃ xs : List Str, H' D = some (.lst (xs.map V.str)) ∧ xs.length ≤ i ∧ (∀ s ∈ xs, ∃ z : Int, 0 < z ∧ (s, z) ∈ g.cells) ∧ Same H1 H') ⟨[], upd_same, Nat.le_refl _, by simp, same_new nD⟩ (fun i H' _ ⟨_, _, _, _, sm⟩ => SqL.of (sm _ _ hC1)) ?_ ?_
      · rintro i v H' hv ⟨xs, x1, x2, x3, sm⟩
        obtain ⟨t, ht, rfl⟩ : ∃ t, ts[i]? = some t ∧ V.ref t = v := by
          rw [List.getElem?_map] at hv
          cases e : ts[i]? with
          | none => rw [e] at hv; cases hv
          | some l => rw [e] at hv; exact ⟨l, rfl, Option.some.inj hv⟩
        have il : i < g.cells.length := by
          rw [← c2]
          exact (List.getElem?_eq_some_iff.mp ht).1
        have hT := Same.seqT sm (Same.seqT New.sub (c3 i t _ ht (List.getElem?_eq_getElem il)))
        refine ⟨t, _, rfl, hT, rfl, _, _, rfl, _, _, rfl, rfl, rfl, ?_⟩
        refine ⟨_, rfl, _, _, rfl, rfl, _, rfl, ite2 (fun c4 => ?_) (fun c4 => ?_)⟩
        · refine ⟨_, rfl, _, x1, ?_, xs ++ [(g.cells[i]).1], ?_, ?_, ?_, ?_⟩
          · rw [List.length_map]
            exact small1000 (by have := gz.1; omega)
          · rw [upd_same, List.map_append]
            rfl
          · rw [List.length_append, List.length_singleton]
            omega
          · intro s hs
            rcases List.mem_append.mp hs with hs | hs
            · exact x3 s hs
            · rw [List.mem_singleton.mp hs]
              exact ⟨(g.cells[i]).2, of_decide_eq_true c4, List.getElem_mem il⟩
          · intro b z e
            rw [upd_ne (ne_of_none e nD)]
            exact sm b z e
        · exact ⟨xs, x1, Nat.le_succ_of_le x2, x3, sm⟩
      · rintro H2 ⟨xs, x1, x2, x3, s2⟩
        rw [List.length_map] at x2
        have sk2 := sk1.same s2
        have k02 := k01.trans (Keep.same (p := p) (c := c) s2)
        have Do := sk1.ne nD
        have hsg2 := s2 _ _ hsg
        -- one more expression
        have sub : ∀ (Hn : Hp) (R : VK), StOk Hn p c → Keep p c H Hn → (∀ v x H', Dp K (New H0 H') v x.d → ExW g x → (x.depth : Int) ≤ max 1 (deep - 1) → StOk H' p c → Keep p c Hn H' → R v H') → sp' [.ref p, .ref e, .int (deep - 1)] Hn R E0 := fun Hn R stn kn hR =>
          imp d' _ Hn R _ rfl ⟨He, H0, p, c, e, g, deep - 1, rfl, st.keep kn stn, en.same (New.keep st.ep st.ec kn), gz, by omega, hR⟩
        have dp6 : ∀ {Ha Hb : Hp} {v : V} {x : Ex}, Dp K (New H0 Ha) v x.d → Keep p c Ha Hb → Dp K (New H0 Hb) v x.d := fun h k => dp_same (New.keep st.op st.oc k) h
        dsimp only [gName, tSeq]
        refine if_and (a := decide (V.int kind = V.int 2)) (b := decide (((xs.map V.str).length : Int) > 0)) (fun Q' q' => ⟨_, rfl, rfl, _, rfl, q'⟩) (fun _ Q' q' => ⟨_, rfl, D, _, rfl, .inl (SqL.of x1), _, _, rfl, rfl, _, rfl, q'⟩) (ite2 (fun c5 => ?_) (fun c5 => ?_))
        · -- an array cell
          rw [Bool.and_eq_true] at c5
          have x0 := of_decide_eq_true c5.2
          refine ⟨_, rfl, _, rfl, p, c, D, _, rfl, sk2, x1, ?_, ?_, Do.1, Do.2, fun y my H3 st3 k3 => ?_⟩
          · intro z
            rw [z] at x0
            exact absurd x0 (by decide)
          · rw [List.length_map]
            have := gz.1
            omega
          · obtain ⟨nm, mn, rfl⟩ := List.mem_map.mp my
            refine ⟨_, rfl, _, rfl, _, rfl, _, _, rfl, rfl, sub H3 _ st3 (k02.trans k3) fun v x H4 h1 h2 h3 st4 k4 => ?_⟩
            refine ⟨by show 3 ≤ sizeLine; decide, fun T2 nT => ?_⟩
            have sT := same_new (o := .tup [.str "at", .str nm, v]) nT
            have kT := Keep.same (p := p) (c := c) sT
            have k04 := (k02.trans k3).trans k4
            refine q _ (.at nm x) _ (.tup (SqT.of (New.of ((st.keep k04 st4).new nT) upd_same)) (.cons (.str _) (.cons (.str _) (.cons (dp6 h1 kT) .nil)))) ⟨x3 nm mn, h2⟩ ?_ (st4.same sT) (k04.trans kT)
            show ((1 + x.depth : Nat) : Int) ≤ _
            omega
        · refine ⟨_, rfl, rfl, _, rfl, ite2 (fun c6 => ?_) (fun c6 => ?_)⟩
          · -- one operand
            refine ⟨_, rfl, by show 3 ≤ sizeLine; decide, fun l nl => ?_⟩
            have lo := sk2.ne nl
            have sl := same_new (o := .lst [.str "neg", .str "inv", .str "not"]) nl
            refine ⟨p, c, l, _, rfl, sk2.same sl, upd_same, by simp, by decide, lo.1, lo.2, fun y my H3 st3 k3 => ?_⟩
            obtain ⟨nm, rfl, mn⟩ : ∃ nm : Str, y = .str nm ∧ nm ∈ UNS := by
              obtain ⟨nm, h1, h2⟩ := List.mem_map.mp (show y ∈ UNS.map V.str from my)
              exact ⟨nm, h2.symm, h1⟩
            have k03 := (k02.trans (Keep.same sl)).trans k3
            refine ⟨_, rfl, _, rfl, _, rfl, _, _, rfl, rfl, sub H3 _ st3 k03 fun v x H4 h1 h2 h3 st4 k4 => ?_⟩
            refine ⟨by show 2 ≤ sizeLine; decide, fun T2 nT => ?_⟩
            have sT := same_new (o := .tup [.str nm, v]) nT
            have kT := Keep.same (p := p) (c := c) sT
            have k04 := k03.trans k4
            refine q _ (.un nm x) _ (.tup (SqT.of (New.of ((st.keep k04 st4).new nT) upd_same)) (.cons (.str _) (.cons (dp6 h1 kT) .nil))) ⟨mn, h2⟩ ?_ (st4.same sT) (k04.trans kT)
            show ((1 + x.depth : Nat) : Int) ≤ _
            omega
          · -- two operands
            refine ⟨_, rfl, _, rfl, _, rfl, _, _, rfl, rfl, sub H2 _ sk2 k02 fun v x H3 h1 h2 h3 st3 k3 => ?_⟩
            have k03 := k02.trans k3
            refine ⟨_, rfl, _, rfl, p, c, sg, _, rfl, st3, k3 _ _ sgo.1 sgo.2 hsg2, by decide, by decide, sgo.1, sgo.2, fun y my H4 st4 k4 => ?_⟩
            obtain ⟨nm, mn, rfl⟩ := List.mem_map.mp my
            have k04 := k03.trans k4
            refine ⟨_, rfl, _, rfl, _, rfl, _, rfl, _, _, rfl, rfl, sub H4 _ st4 k04 fun v2 x2 H5 g1 g2 g3 st5 k5 => ?_⟩
            refine ⟨by show 3 ≤ sizeLine; decide, fun T2 nT => ?_⟩
            have sT := same_new (o := .tup [.str nm, v, v2]) nT
            have kT := Keep.same (p := p) (c := c) sT
            have k05 := k04.trans k5
            refine q _ (.bin nm x x2) _ (.tup (SqT.of (New.of ((st.keep k05 st5).new nT) upd_same)) (.cons (.str _) (.cons (dp6 h1 ((k4.trans k5).trans kT)) (.cons (dp6 g1 kT) .nil)))) ⟨mn, h2, g2⟩ ?_ (st5.same sT) (k05.trans kT)
            show ((1 + max x.depth x2.depth : Nat) : Int) ≤ _
            omega
theorem okd__law_expr (T : Top K mg) : ∀ d : Nat, FnOk P w K mg base CX0 (3 + d + 1) T.a__law_expr T.d__law_expr ["state", "env", "deep"] (sp__law_expr K d)
  | 0 => step__law_expr T (sp' := fun _ _ _ _ => False) ⟨fun _ _ _ _ h => h.elim, fun _ _ _ _ _ _ _ _ _ _ _ _ _ h => h.elim⟩ fun d' _ _ _ _ h => absurd h.symm (Nat.succ_ne_zero d')
  | d + 1 => step__law_expr T (okd__law_expr T d) fun d' vs H Q E h z => by
    cases h
    exact z
end

section
variable {P : Program} {w : World} {K : PySem.W.Frag} {mg : Str → Option Value} {base : Heap}
theorem ok__law_expr (T : Top K mg) : FnOk P w K mg base CX0 9 T.a__law_expr T.d__law_expr ["state", "env", "deep"] (sp__law_expr K 5) := okd__law_expr T 5
def sp__law_place (K : PySem.W.Frag) : Sp := fun vs H Q _ => ∃ (He H0 : Hp) (p c e : Addr) (g : Env), vs = [.ref p, .ref e] ∧ Here He H0 H p c ∧ EnvAt K (New He H) e g ∧ exSize g ∧ g.cells ≠ [] ∧ (∀ q ∈ g.cells, 0 ≤ q.2) ∧
  ∀ (v : V) (x : Pl) (H' : Hp), Dp K (New H0 H') v x.d → PlW g x → StOk H' p c → Keep p c H H' → Q v H'
theorem ok__law_place (T : Top K mg) : FnOk P w K mg base CX0 10 T.a__law_place T.d__law_place ["state", "env"]  (sp__law_place K) := by
  refine T.F__law_place.ok sc__law_place (fun vs H Q E h => ?_) (fun cdv A outer s H vs Q E hr h => ?_)
  · obtain ⟨_, _, _, _, _, _, rfl, _⟩ := h
    rfl
  · obtain ⟨He, H0, p, c, e, g, rfl, st, en, gz, gne, gnn, q⟩ := h
    refine ⟨_, (pss_cons (ps_asg (pe_call (ok__law_pick T) (hr.mono (by decide)) (by rfl) T.g__law_pick T.F__law_pick.kp T.b__law_pick .nil pass0 (pa_cons (pv 0) (pa_cons (pe_ix ix_list (pv 1) pe_int (fun _ _ => rfl)) pa_nil))) (pg_tup rfl (pgs_cons (pg_name (i := 2) sc__law_place.nd rfl (by first | exact Or.inl rfl | exact Or.inr rfl)) (pgs_cons (pg_name (i := 3) sc__law_place.nd rfl (by first | exact Or.inl rfl | exact Or.inr rfl)) pgs_nil))))
  (pss_cons (ps_if (pt_cmpR op_eq (pv 3) pe_int (nomark _))
  (pss_one (ps_ret (pe_tup (pa_cons pe_str (pa_cons (pv 2) pa_nil)))))
  pss_nil)
  (pss_one (ps_ret (pe_tup (pa_cons pe_str (pa_cons (pv 2) (pa_cons (pe_call (ok__law_expr T) (hr.mono (by decide)) (by rfl) T.g__law_expr T.F__law_expr.kp T.b__law_expr .nil pass0 (pa_cons (pv 0) (pa_cons (pv 1) (pa_cons pe_int pa_nil)))) pa_nil)))))))), ?_⟩
    obtain ⟨C, V', Po, Ca, e1, ⟨ts, c1, c2, c3⟩, _⟩ := id en
    obtain ⟨eN, he1⟩ := New.get e1
    obtain ⟨CN, hC1⟩ := New.get c1
    obtain ⟨_, hep⟩ := st.ep
    obtain ⟨_, hec⟩ := st.ec
    have Cp : C ≠ p := fun z => by rw [z, hep] at CN; cases CN
    have Cc : C ≠ c := fun z => by rw [z, hec] at CN; cases CN
    have tn : ts.map V.ref ≠ [] := fun z => by
      have e0 := congrArg List.length z
      rw [List.length_map, c2] at e0
      exact gne (List.eq_nil_of_length_eq_zero e0)
    refine ⟨_, rfl, _, rfl, e, _, 0, .ref C, rfl, rfl, SqL.of he1, at_of (j := 0) rfl rfl, p, c, C, _, rfl, st.st, hC1, tn, ?_, Cp, Cc, fun y my H1 st1 k1 => ?_⟩
    · rw [List.length_map, c2]
      have := gz.1
      omega
    obtain ⟨t, mt, rfl⟩ := List.mem_map.mp my
    obtain ⟨i, hi⟩ := List.getElem?_of_mem mt
    have il : i < g.cells.length := by
      rw [← c2]
      exact (List.getElem?_eq_some_iff.mp hi).1
    have en1 := en.same (New.keep st.ep st.ec k1)
    have hT := Same.seqT New.sub (Same.seqT (New.keep st.ep st.ec k1) (c3 i t _ hi (List.getElem?_eq_getElem il)))
    have mem := List.getElem_mem il
    refine ⟨t, _, rfl, hT, rfl, _, _, rfl, _, _, rfl, rfl, ?_⟩
    refine ⟨_, rfl, rfl, _, rfl, ite2 (fun c4 => ?_) (fun c4 => ?_)⟩
    · have sz := V.int.inj (of_decide_eq_true c4)
      refine ⟨_, rfl, by show 2 ≤ sizeLine; decide, fun T2 nT => ?_⟩
      have sT := same_new (o := .tup [.str "cell", .str (g.cells[i]).1]) nT
      exact q _ (.cell (g.cells[i]).1) _ (.tup (SqT.of (New.of ((st.keep k1 st1).new nT) upd_same)) (.cons (.str _) (.cons (.str _) .nil))) (by show ((g.cells[i]).1, (0 : Int)) ∈ g.cells; rw [← sz]; exact mem) (st1.same sT) (k1.trans (Keep.same sT))
    · have sz : 0 < (g.cells[i]).2 := by
        have h1 := gnn _ mem
        have h2 : ¬ (g.cells[i]).2 = 0 := fun z => c4 (decide_eq_true (by rw [z]))
        omega
      refine ⟨_, rfl, _, rfl, _, rfl, He, H0, p, c, e, g, 2, rfl, st.keep k1 st1, en1, gz, by decide, fun v x H2 h1 h2 h3 st2 k2 => ?_⟩
      refine ⟨by show 3 ≤ sizeLine; decide, fun T2 nT => ?_⟩
      have sT := same_new (o := .tup [.str "at", .str (g.cells[i]).1, v]) nT
      have kT := Keep.same (p := p) (c := c) sT
      exact q _ (.at (g.cells[i]).1 x) _ (.tup (SqT.of (New.of ((st.keep (k1.trans k2) st2).new nT) upd_same)) (.cons (.str _) (.cons (.str _) (.cons (dp_same (New.keep st.op st.oc kT) h1) .nil)))) ⟨⟨_, sz, mem⟩, h2, by have e : max (1 : Int) 2 = 2 := (by decide); omega⟩ (st2.same sT) ((k1.trans k2).trans kT)
end

section
variable {P : Program} {w : World} {K : PySem.W.Frag} {mg : Str → Option Value} {base : Heap}
/-- the names of a body at this nesting -/
structure EnvOk (g : Env) (n : Nat) : Prop where
  sz : exSize g
  vs : g.vars.length + n ≤ 90
  ne : g.cells ≠ []
  nn : ∀ q ∈ g.cells, 0 ≤ q.2
  pt : ∀ q ∈ g.ports, q.1 = ("in" : Str) ∨ q.1 = ("out" : Str)
  cm : ∀ q ∈ g.calls, q.2.2 ≤ 4
def sp__law_statement (K : PySem.W.Frag) (n : Nat) : Sp := fun vs H Q _ => ∃ (He H0 : Hp) (p c e : Addr) (g : Env), vs = [.ref p, .ref e, .int n] ∧ Here He H0 H p c ∧ EnvAt K (New He H) e g ∧ EnvOk g n ∧
  ∀ (v : V) (x : Stm) (H' : Hp), Dp K (New H0 H') v x.d → StW g n x → StOk H' p c → Keep p c H H' → Q v H'
def sp__law_body (K : PySem.W.Frag) (n : Nat) : Sp := fun vs H Q _ => ∃ (He H0 : Hp) (p c e : Addr) (g : Env), vs = [.ref p, .ref e, .int n] ∧ Here He H0 H p c ∧ EnvAt K (New He H) e g ∧ EnvOk g n ∧
  ∀ (v : V) (b : List Stm) (H' : Hp), Dp K (New H0 H') v (.list (stmsD b)) → BodyW g n b → StOk H' p c → Keep p c H H' → Q v H'
theorem stms_snoc : ∀ {b : List Stm} {s : Stm}, stmsD (b ++ [s]) = stmsD b ++ [s.d]
  | [], _ => rfl
  | x :: r, s => by
    show x.d :: stmsD (r ++ [s]) = x.d :: (stmsD r ++ [s.d])
    rw [stms_snoc]
theorem stmsw_nil {g : Env} {n : Nat} : StmsW g n [] := by
  unfold StmsW
  trivial
theorem stmsw_cons {g : Env} {n : Nat} {x : Stm} {r : List Stm} : StmsW g n (x :: r) ↔ StW g n x ∧ StmsW g n r := by
  conv => lhs; unfold StmsW
theorem stmsw_snoc {g : Env} {n : Nat} : ∀ {b : List Stm} {s : Stm}, StmsW g n b → StW g n s → StmsW g n (b ++ [s])
  | [], _, _, h => stmsw_cons.mpr ⟨h, stmsw_nil⟩
  | x :: r, s, h1, h => stmsw_cons.mpr ⟨(stmsw_cons.mp h1).1, stmsw_snoc (stmsw_cons.mp h1).2 h⟩
theorem bodyw {g : Env} {n : Nat} {b : List Stm} (h1 : b.length ≤ n + 1) (h2 : StmsW g n b) : BodyW g n b := by
  unfold BodyW
  exact ⟨h1, h2⟩
theorem New.upd {H0 H : Hp} {a : Addr} {o : HO} (h : ∃ x, H0 a = some x) : Same (New H0 H) (New H0 (upd H a o)) := fun b y e => by
  obtain ⟨h1, h2⟩ := New.get e
  obtain ⟨x, hx⟩ := h
  refine New.of h1 ?_
  rw [upd_ne (fun z => by rw [z, hx] at h1; cases h1)]
  exact h2
theorem StOk.upd {H : Hp} {p c a : Addr} {o : HO} (s : StOk H p c) (h1 : a ≠ p) (h2 : a ≠ c) : StOk (upd H a o) p c := by
  obtain ⟨ms, sd, n, hp, hc, h⟩ := s
  exact ⟨ms, sd, n, by rw [upd_ne h1.symm]; exact hp, by rw [upd_ne h2.symm]; exact hc, h⟩
theorem Keep.upd {p c a : Addr} {H H1 : Hp} {o : HO} (k : Keep p c H H1) (n : H a = none) : Keep p c H (upd H1 a o) := fun b y h1 h2 e => by
  rw [upd_ne (ne_of_none e n)]
  exact k b y h1 h2 e
theorem Here.at {He H0 H : Hp} {p c : Addr} (h : Here He H0 H p c) : Here He H H p c := ⟨h.st, h.ep, h.ec, h.st.there.1, h.st.there.2, Dom.refl H⟩
theorem step__law_body (T : Top K mg) {d n : Nat} (hd : 30 ≤ 3 + d) (n9 : n ≤ 9) (ihS : Top K mg → FnOk P w K mg base CX0 (3 + d) T.a__law_statement T.d__law_statement ["state", "env", "nested"] (sp__law_statement K n)) :
    FnOk P w K mg base CX0 (3 + d + 1) T.a__law_body T.d__law_body ["state", "env", "nested"] (sp__law_body K n) := by
  refine T.F__law_body.ok sc__law_body (fun vs H Q E h => ?_) (fun cdv A outer s H vs Q E hr h => ?_)
  · obtain ⟨_, _, _, _, _, _, rfl, _⟩ := h
    rfl
  · obtain ⟨He, H0, p, c, e, g, rfl, st, en, ev, q⟩ := h
    refine ⟨_, (pss_one (ps_ret (pe_lc (own := [("k", 3)]) (g := gName 3) (tt := tYes) rfl sc__law_body.nd (pi_range1 (by rfl) T.m_range (pa_cons (pe_call (ok__law_draw T) (hr.mono (by show _ ≤ 3 + d; omega)) (by rfl) T.g__law_draw T.F__law_draw.kp T.b__law_draw .nil pass0 (pa_cons (pv 0) (pa_cons (pe_op op_add pe_int (pv 2)) pa_nil))) pa_nil)) (blkOk_by (N := ["state", "env", "nested", "k"]) (sc := defScope s__law_body) (by decide +kernel)) (fun _ _ _ _ _ => pg_name (i := 3) sc__law_body.nd rfl (Or.inl rfl)) (fun _ _ _ _ _ => pts_nil) (fun _ _ _ _ _ => (pe_call (ihS T) (hr.mono (by show _ ≤ 3 + d; omega)) (by rfl) T.g__law_statement T.F__law_statement.kp T.b__law_statement .nil pass0 (pa_cons (pv 0) (pa_cons (pv 1) (pa_cons (pv 2) pa_nil)))))))), ?_⟩
    refine ⟨_, rfl, _, rfl, _, _, rfl, rfl, p, c, _, rfl, st.st, by omega, by omega, fun m H1 m0 m1 st1 k1 => ?_⟩
    refine ⟨m, rfl, by omega, by omega, fun D nD => ?_⟩
    have k0 := k1.trans (Keep.same (same_new (o := .lst []) nD))
    have st2 := st.keep k0 (st1.same (same_new nD))
    refine lc_range (n := m.toNat) (fun i H' => ∃ (xs : List V) (b : List Stm), H' D = some (.lst xs) ∧ xs.length = i ∧ Dom (upd H1 D (.lst [])) H' ∧ b.length = i ∧ DpAll K (New (upd H1 D (.lst [])) H') xs (stmsD b) ∧ StmsW g n b ∧ StOk H' p c ∧ Keep p c H H')
      ⟨[], [], upd_same, rfl, Dom.refl _, rfl, .nil, stmsw_nil, st2.st, k0⟩ ?_ ?_
    · rintro i H2 hi ⟨xs, b, x1, xl, dm, x2, x3, x4, st3, k3⟩
      refine ⟨rfl, ?_⟩
      have Do := st1.ne nD
      have hDn : ∃ x, (upd H1 D (.lst [])) D = some x := ⟨_, upd_same⟩
      refine ⟨_, rfl, _, rfl, _, rfl, He, upd H1 D (.lst []), p, c, e, g, rfl, ⟨st3, st.ep, st.ec, st2.st.there.1, st2.st.there.2, ?_⟩, en.same (New.keep st.ep st.ec k3), ev, fun v x H3 h1 h2 st4 k4 => ?_⟩
      · exact dm
      · have sk := New.keep (p := p) (c := c) st2.st.there.1 st2.st.there.2 k4
        have su := New.upd (H0 := upd H1 D (.lst [])) (H := H3) (o := .lst (xs ++ [v])) hDn
        refine ⟨xs, k4 _ _ Do.1 Do.2 x1, ?_, xs ++ [v], b ++ [x], upd_same, ?_, (dm.trans (k4.dom st4)).trans Dom.upd, ?_, ?_, stmsw_snoc x4 h2, st4.upd Do.1 Do.2, (k3.trans k4).upd (k1.free st1 nD)⟩
        · exact small1000 (by omega)
        · rw [List.length_append, xl]
          rfl
        · rw [List.length_append, x2]
          rfl
        · rw [stms_snoc]
          exact dps_snoc (dps_same su (dps_same sk x3)) (dp_same su h1)
    · rintro H2 ⟨xs, b, x1, xl, dm, x2, x3, x4, st3, k3⟩
      have sb : Same (New (upd H1 D (.lst [])) H2) (New H0 H2) := New.back (st.dom.trans (k0.dom st2.st))
      refine q _ b H2 (.lst (SqL.of (New.of ?_ x1)) (dps_same sb x3)) (bodyw (by omega) x4) st3 k3
      exact (st.keep k1 st1).new nD
end

section
variable {P : Program} {w : World} {K : PySem.W.Frag} {mg : Str → Option Value} {base : Heap}
theorem stw_if {g : Env} {n : Nat} {e : Ex} {a b : List Stm} (h : ExW g e) (h2 : e.depth ≤ 2) (ha : BodyW g n a) (hb : BodyW g n b) : StW g (n + 1) (.ifs e a b) := by
  unfold StW
  exact ⟨h, h2, ha, hb⟩
theorem stw_set {g : Env} {n : Nat} {p : Pl} {e : Ex} (hp : PlW g p) (he : ExW g e) (hd : e.depth ≤ 3) : StW g n (.set p e) := by
  unfold StW
  cases n <;> exact ⟨hp, he, hd⟩
theorem stw_read {g : Env} {n : Nat} {p : Pl} {t : Str} (hp : PlW g p) (ht : (("in" : Str), t) ∈ g.ports) : StW g n (.read p t) := by
  unfold StW
  cases n <;> exact ⟨hp, ht⟩
theorem stw_write {g : Env} {n : Nat} {e : Ex} {t : Str} (ht : (("out" : Str), t) ∈ g.ports) (he : ExW g e) (hd : e.depth ≤ 3) : StW g n (.write t e) := by
  unfold StW
  cases n <;> exact ⟨ht, he, hd⟩
theorem stw_call {g : Env} {n : Nat} {p : Option Pl} {o op : Str} {as : List Ex} (h1 : (o, op, as.length) ∈ g.calls) (h2 : ∀ e ∈ as, ExW g e ∧ e.depth ≤ 2) (h3 : ∀ q, p = some q → PlW g q) : StW g n (.call p o op as) := by
  unfold StW
  cases n <;> exact ⟨h1, h2, h3⟩
theorem stw_loop {g : Env} {n : Nat} {k : Int} {e : Option Ex} {b : List Stm} (h0 : 0 < g.loops) (h1 : 1 ≤ k) (h2 : k ≤ 4) (h3 : ∀ f, e = some f → ExW g f ∧ f.depth ≤ 2) (h4 : BodyW { g with vars := g.vars ++ [loopName (n + 1)], loops := g.loops - 1 } n b) : StW g (n + 1) (.loop (loopName (n + 1)) k e b) := by
  unfold StW
  exact ⟨rfl, h0, h1, h2, h3, h4⟩
/-- the old heap with nothing but the state's places -/
def Only (p c : Addr) (H : Hp) : Hp := fun a => if a = p ∨ a = c then H a else none
theorem Only.sub {p c : Addr} {He H : Hp} : Same (New He H) (New (Only p c He) H) := fun a x e => by
  obtain ⟨h1, h2⟩ := New.get e
  refine New.of ?_ h2
  unfold Only
  split
  · exact h1
  · rfl
theorem Only.off {p c a : Addr} {He : Hp} (h1 : a ≠ p) (h2 : a ≠ c) : Only p c He a = none := by
  unfold Only
  rw [if_neg (by rintro (z | z); exact h1 z; exact h2 z)]
theorem Only.at {p c : Addr} {He : Hp} (h1 : ∃ x, He p = some x) (h2 : ∃ x, He c = some x) : (∃ x, Only p c He p = some x) ∧ ∃ x, Only p c He c = some x := by
  unfold Only
  rw [if_pos (.inl rfl), if_pos (.inr rfl)]
  exact ⟨h1, h2⟩
theorem num_len {m : Nat} (h : m ≤ 10) : (Str.ofString (toString ((m : Nat) : Int))).length ≤ 2 := by
  rw [SX.num_S m, SX.S_len]
  exact TL.numL_len (k := 2) (by decide) (by omega)
theorem num_small {m : Nat} (h : m ≤ 10) : ((m : Int).natAbs).log2 < 1920 := by
  have e2 : ((m : Int).natAbs) = m := by omega
  rw [e2]
  by_cases h0 : m = 0
  · rw [h0]
    decide
  · exact Nat.lt_trans ((Nat.log2_lt h0).mpr (show m < 2 ^ 4 by omega)) (by decide)
theorem step__law_statement (T : Top K mg) {d n : Nat} {spB : Sp} (hd : 30 ≤ 3 + d) (n9 : n ≤ 9) (ihB : Top K mg → FnOk P w K mg base CX0 (3 + d) T.a__law_body T.d__law_body ["state", "env", "nested"] spB) (imp : ∀ (n' : Nat) vs H Q E, n = n' + 1 → sp__law_body K n' vs H Q E → spB vs H Q E) :
    FnOk P w K mg base CX0 (3 + d + 1) T.a__law_statement T.d__law_statement ["state", "env", "nested"] (sp__law_statement K n) := by
  refine T.F__law_statement.ok sc__law_statement (fun vs H Q E h => ?_) (fun cdv A outer s H vs Q E hr h => ?_)
  · obtain ⟨_, _, _, _, _, _, rfl, _⟩ := h
    rfl
  · obtain ⟨He, H0, p, c, e, g, rfl, st, en, ev, q⟩ := h
    refine ⟨_, (pss_cons (ps_set (i := 3) sc__law_statement.nd rfl (by first | exact Or.inl rfl | exact Or.inr rfl) (pe_call (ok__law_draw T) (hr.mono (by show _ ≤ 3 + d; omega)) (by rfl) T.g__law_draw T.F__law_draw.kp T.b__law_draw .nil pass0 (pa_cons (pv 0) (pa_cons pe_int pa_nil))))
  (pss_cons (ps_if (pw_and (pt_cmpR op_eq (pv 3) pe_int (nomark _)) (pw_and1 (pt_cmpR op_gt (pv 2) pe_int (nomark _)))).pt
  (pss_cons (ps_set (i := 4) sc__law_statement.nd rfl (by first | exact Or.inl rfl | exact Or.inr rfl) (pe_call (ok__law_expr T) (hr.mono (by show _ ≤ 3 + d; omega)) (by rfl) T.g__law_expr T.F__law_expr.kp T.b__law_expr .nil pass0 (pa_cons (pv 0) (pa_cons (pv 1) (pa_cons pe_int pa_nil)))))
  (pss_one (ps_ret (pe_tup (pa_cons pe_str (pa_cons (pv 4) (pa_cons (pe_call (ihB T) (hr.mono (by show _ ≤ 3 + d; omega)) (by rfl) T.g__law_body T.F__law_body.kp T.b__law_body .nil pass0 (pa_cons (pv 0) (pa_cons (pv 1) (pa_cons (pe_op op_sub (pv 2) pe_int) pa_nil)))) (pa_cons (pe_call (ihB T) (hr.mono (by show _ ≤ 3 + d; omega)) (by rfl) T.g__law_body T.F__law_body.kp T.b__law_body .nil pass0 (pa_cons (pv 0) (pa_cons (pv 1) (pa_cons (pe_op op_sub (pv 2) pe_int) pa_nil)))) pa_nil))))))))
  pss_nil)
  (pss_cons (ps_if (pw_and (pt_cmpR op_le (pv 3) pe_int (nomark _)) (pw_and (pt_cmpR op_gt (pv 2) pe_int (nomark _)) (pw_and1 (pt_cmpR op_gt (pe_ix ix_list (pv 1) pe_int (fun _ _ => rfl)) pe_int (nomark _))))).pt
  (pss_cons (ps_set (i := 4) sc__law_statement.nd rfl (by first | exact Or.inl rfl | exact Or.inr rfl) pe_non)
  (Evl.pss_cut (ps_if (pt_cmpR op_eq (pv 3) pe_int (nomark _))
  (pss_one (ps_set (i := 4) sc__law_statement.nd rfl (by first | exact Or.inl rfl | exact Or.inr rfl) (pe_call (ok__law_expr T) (hr.mono (by show _ ≤ 3 + d; omega)) (by rfl) T.g__law_expr T.F__law_expr.kp T.b__law_expr .nil pass0 (pa_cons (pv 0) (pa_cons (pv 1) (pa_cons pe_int pa_nil))))))
  pss_nil)
  (pss_cons (ps_set (i := 5) sc__law_statement.nd rfl (by first | exact Or.inl rfl | exact Or.inr rfl) (pe_op op_add_str pe_str (pe_callTy call_str_int (by rfl) T.m_str (by decide +kernel) (pa_cons (pv 2) pa_nil))))
  (pss_cons (ps_set (i := 6) sc__law_statement.nd rfl (by first | exact Or.inl rfl | exact Or.inr rfl) (pe_lst (pa_cons (pe_ix ix_list (pv 1) pe_int (fun _ _ => rfl)) (pa_cons (pe_op op_cat (pe_ix ix_list (pv 1) pe_int (fun _ _ => rfl)) (pe_lst (pa_cons (pv 5) pa_nil))) (pa_cons (pe_ix ix_list (pv 1) pe_int (fun _ _ => rfl)) (pa_cons (pe_ix ix_list (pv 1) pe_int (fun _ _ => rfl)) (pa_cons (pe_op op_sub (pe_ix ix_list (pv 1) pe_int (fun _ _ => rfl)) pe_int) pa_nil)))))))
  (pss_one (ps_ret (pe_tup (pa_cons pe_str (pa_cons (pv 5) (pa_cons (pe_op op_add pe_int (pe_call (ok__law_draw T) (hr.mono (by show _ ≤ 3 + d; omega)) (by rfl) T.g__law_draw T.F__law_draw.kp T.b__law_draw .nil pass0 (pa_cons (pv 0) (pa_cons pe_int pa_nil)))) (pa_cons (pv 4) (pa_cons (pe_call (ihB T) (hr.mono (by show _ ≤ 3 + d; omega)) (by rfl) T.g__law_body T.F__law_body.kp T.b__law_body .nil pass0 (pa_cons (pv 0) (pa_cons (pv 6) (pa_cons (pe_op op_sub (pv 2) pe_int) pa_nil)))) pa_nil))))))))))))
  pss_nil)
  (pss_cons (ps_if (pw_and (pt_cmpR op_le (pv 3) pe_int (nomark _)) (pw_and1 (pt_cmpR op_gt (pe_callB call_len_seq (by rfl) T.m_len PySem.boot_len (pa_cons (pe_ix ix_list (pv 1) pe_int (fun _ _ => rfl)) pa_nil)) pe_int (nomark _)))).pt
  (pss_cons (ps_asg (pe_call (ok__law_pick T) (hr.mono (by show _ ≤ 3 + d; omega)) (by rfl) T.g__law_pick T.F__law_pick.kp T.b__law_pick .nil pass0 (pa_cons (pv 0) (pa_cons (pe_ix ix_list (pv 1) pe_int (fun _ _ => rfl)) pa_nil))) (pg_tup rfl (pgs_cons (pg_name (i := 7) sc__law_statement.nd rfl (by first | exact Or.inl rfl | exact Or.inr rfl)) (pgs_cons (pg_name (i := 8) sc__law_statement.nd rfl (by first | exact Or.inl rfl | exact Or.inr rfl)) (pgs_cons (pg_name (i := 9) sc__law_statement.nd rfl (by first | exact Or.inl rfl | exact Or.inr rfl)) pgs_nil)))))
  (pss_cons (ps_setLc (i := 10) (own := [("k", 11)]) (g := gName 11) (tt := tYes) rfl sc__law_statement.nd rfl rfl (sw_true rfl rfl rfl (by decide +kernel)) (pi_range1 (by rfl) T.m_range (pa_cons (pv 9) pa_nil)) (blkOk_by (N := ["state", "env", "nested", "kind", "test", "name", "inner", "thing", "operation", "many", "args", "k", "way"]) (sc := defScope s__law_statement) (by decide +kernel)) (fun _ _ _ _ _ => pg_name (i := 11) sc__law_statement.nd rfl (Or.inl rfl)) (fun _ _ _ _ _ => pts_nil) (fun _ _ _ _ _ => (pe_call (ok__law_expr T) (hr.mono (by show _ ≤ 3 + d; omega)) (by rfl) T.g__law_expr T.F__law_expr.kp T.b__law_expr .nil pass0 (pa_cons (pv 0) (pa_cons (pv 1) (pa_cons pe_int pa_nil))))))
  (pss_one (ps_ret (pe_tup (pa_cons pe_str (pa_cons (pe_call (ok__law_pick T) (hr.mono (by show _ ≤ 3 + d; omega)) (by rfl) T.g__law_pick T.F__law_pick.kp T.b__law_pick .nil pass0 (pa_cons (pv 0) (pa_cons (pe_lst (pa_cons pe_non (pa_cons (pe_call (ok__law_place T) (hr.mono (by show _ ≤ 3 + d; omega)) (by rfl) T.g__law_place T.F__law_place.kp T.b__law_place .nil pass0 (pa_cons (pv 0) (pa_cons (pv 1) pa_nil))) pa_nil))) pa_nil))) (pa_cons (pv 7) (pa_cons (pv 8) (pa_cons (pv 10) pa_nil))))))))))
  pss_nil)
  (pss_cons (ps_if (pw_and (pt_cmpR op_le (pv 3) pe_int (nomark _)) (pw_and1 (pt_cmpR op_gt (pe_callB call_len_seq (by rfl) T.m_len PySem.boot_len (pa_cons (pe_ix ix_list (pv 1) pe_int (fun _ _ => rfl)) pa_nil)) pe_int (nomark _)))).pt
  (pss_cons (ps_asg (pe_call (ok__law_pick T) (hr.mono (by show _ ≤ 3 + d; omega)) (by rfl) T.g__law_pick T.F__law_pick.kp T.b__law_pick .nil pass0 (pa_cons (pv 0) (pa_cons (pe_ix ix_list (pv 1) pe_int (fun _ _ => rfl)) pa_nil))) (pg_tup rfl (pgs_cons (pg_name (i := 12) sc__law_statement.nd rfl (by first | exact Or.inl rfl | exact Or.inr rfl)) (pgs_cons (pg_name (i := 5) sc__law_statement.nd rfl (by first | exact Or.inl rfl | exact Or.inr rfl)) pgs_nil))))
  (pss_cons (ps_if (pt_cmpR op_eq (pv 12) pe_str (nomark _))
  (pss_one (ps_ret (pe_tup (pa_cons pe_str (pa_cons (pv 5) (pa_cons (pe_call (ok__law_expr T) (hr.mono (by show _ ≤ 3 + d; omega)) (by rfl) T.g__law_expr T.F__law_expr.kp T.b__law_expr .nil pass0 (pa_cons (pv 0) (pa_cons (pv 1) (pa_cons pe_int pa_nil)))) pa_nil))))))
  pss_nil)
  (pss_one (ps_ret (pe_tup (pa_cons pe_str (pa_cons (pe_call (ok__law_place T) (hr.mono (by show _ ≤ 3 + d; omega)) (by rfl) T.g__law_place T.F__law_place.kp T.b__law_place .nil pass0 (pa_cons (pv 0) (pa_cons (pv 1) pa_nil))) (pa_cons (pv 5) pa_nil))))))))
  pss_nil)
  (pss_one (ps_ret (pe_tup (pa_cons pe_str (pa_cons (pe_call (ok__law_place T) (hr.mono (by show _ ≤ 3 + d; omega)) (by rfl) T.g__law_place T.F__law_place.kp T.b__law_place .nil pass0 (pa_cons (pv 0) (pa_cons (pv 1) pa_nil))) (pa_cons (pe_call (ok__law_expr T) (hr.mono (by show _ ≤ 3 + d; omega)) (by rfl) T.g__law_expr T.F__law_expr.kp T.b__law_expr .nil pass0 (pa_cons (pv 0) (pa_cons (pv 1) (pa_cons (pe_op op_add pe_int (pe_call (ok__law_draw T) (hr.mono (by show _ ≤ 3 + d; omega)) (by rfl) T.g__law_draw T.F__law_draw.kp T.b__law_draw .nil pass0 (pa_cons (pv 0) (pa_cons pe_int pa_nil)))) pa_nil)))) pa_nil))))))))))), ?_⟩
    obtain ⟨gz, gv, gne, gnn, gpt, gcm⟩ := id ev
    refine ⟨_, rfl, p, c, 8, rfl, st.st, by decide, by decide, fun kind H1 a1 b1 st1 k1 => ?_⟩
    have hr1 := st.keep k1 st1
    have dp6 : ∀ {Ha Hb : Hp} {v : V} {x : PyData}, Dp K (New H0 Ha) v x → Keep p c Ha Hb → Dp K (New H0 Hb) v x := fun h k => dp_same (New.keep st.op st.oc k) h
    have enK : ∀ {Hn : Hp}, Keep p c H Hn → EnvAt K (New He Hn) e g := fun k => en.same (New.keep st.ep st.ec k)
    have expr : ∀ (Hn : Hp) (R : VK) (deep : Int), deep ≤ 6 → StOk Hn p c → Keep p c H Hn → (∀ v x H', Dp K (New H0 H') v x.d → ExW g x → (x.depth : Int) ≤ max 1 deep → StOk H' p c → Keep p c Hn H' → R v H') → sp__law_expr K 5 [.ref p, .ref e, .int deep] Hn R E0 := fun Hn R deep hdp stn kn hR =>
      ⟨He, H0, p, c, e, g, deep, rfl, st.keep kn stn, enK kn, gz, by omega, hR⟩
    have place : ∀ (Hn : Hp) (R : VK), StOk Hn p c → Keep p c H Hn → (∀ v x H', Dp K (New H0 H') v (Pl.d x) → PlW g x → StOk H' p c → Keep p c Hn H' → R v H') → sp__law_place K [.ref p, .ref e] Hn R E0 := fun Hn R stn kn hR =>
      ⟨He, H0, p, c, e, g, rfl, st.keep kn stn, enK kn, gz, gne, gnn, hR⟩
    have m2 : max (1 : Int) 2 = 2 := by decide
    have m3 : max (1 : Int) 3 = 3 := by decide
    dsimp only [gName, tSeq]
    refine if_and (a := decide (V.int kind = V.int 0)) (b := decide ((n : Int) > 0)) (fun Q' q' => ⟨_, rfl, rfl, _, rfl, q'⟩) (fun _ Q' q' => ⟨_, rfl, _, _, rfl, rfl, _, rfl, q'⟩) (ite2 (fun c1 => ?_) (fun c1 => ?_))
    · -- if
      rw [Bool.and_eq_true] at c1
      have n0 := of_decide_eq_true c1.2
      obtain ⟨n', rfl⟩ : ∃ n', n = n' + 1 := ⟨n - 1, by omega⟩
      have en' : ((n' + 1 : Nat) : Int) - 1 = (n' : Int) := by omega
      have body : ∀ (Hn : Hp) (R : VK), StOk Hn p c → Keep p c H Hn → (∀ v b H', Dp K (New H0 H') v (.list (stmsD b)) → BodyW g n' b → StOk H' p c → Keep p c Hn H' → R v H') → spB [.ref p, .ref e, .int (((n' + 1 : Nat) : Int) - 1)] Hn R E0 := fun Hn R stn kn hR =>
        imp n' _ Hn R _ rfl ⟨He, H0, p, c, e, g, by rw [en'], st.keep kn stn, enK kn, ⟨gz, by omega, gne, gnn, gpt, gcm⟩, hR⟩
      refine ⟨_, rfl, _, rfl, expr H1 _ 2 (by decide) st1 k1 fun v x H2 h1 h2 h3 st2 k2 => ?_⟩
      have k02 := k1.trans k2
      refine ⟨_, rfl, _, rfl, _, rfl, _, rfl, _, _, rfl, rfl, body H2 _ st2 k02 fun va ba H3 g1 g2 st3 k3 => ?_⟩
      refine ⟨_, rfl, _, rfl, _, rfl, _, _, rfl, rfl, body H3 _ st3 (k02.trans k3) fun vb bb H4 f1 f2 st4 k4 => ?_⟩
      refine ⟨by show 4 ≤ sizeLine; decide, fun T2 nT => ?_⟩
      have sT := same_new (o := .tup [.str "if", v, va, vb]) nT
      have kT := Keep.same (p := p) (c := c) sT
      have k04 := (k02.trans k3).trans k4
      exact q _ (.ifs x ba bb) _ (.tup (SqT.of (New.of ((st.keep k04 st4).new nT) upd_same)) (.cons (.str _) (.cons (dp6 h1 ((k3.trans k4).trans kT)) (.cons (dp6 g1 (k4.trans kT)) (.cons (dp6 f1 kT) .nil))))) (stw_if h2 (by omega) g2 f2) (st4.same sT) (k04.trans kT)
    · obtain ⟨C, V', Po, Ca, e1, ⟨ts, t1, t2, t3⟩, v1, ⟨us, u1, u2, u3⟩, ⟨ws, w1, w2, w3⟩⟩ := enK k1
      have he1 := (New.get e1).2
      have hPo := (New.get u1).2
      have hCa := (New.get w1).2
      have off : ∀ {a : Addr} {x : HO}, New He H1 a = some x → a ≠ p ∧ a ≠ c := fun h => by
        obtain ⟨_, hep⟩ := st.ep
        obtain ⟨_, hec⟩ := st.ec
        have h0 := (New.get h).1
        exact ⟨fun z => (by rw [z, hep] at h0; cases h0), fun z => (by rw [z, hec] at h0; cases h0)⟩
      dsimp only [tNext, tSeq]
      refine if_and (a := decide (kind ≤ 2)) (b := decide ((n : Int) > 0) && decide (g.loops > 0)) (fun Q' q' => ⟨_, rfl, _, _, rfl, rfl, _, rfl, q'⟩)
        (fun _ Q' q' => and_test (fun Q2 q2 => ⟨_, rfl, _, _, rfl, rfl, _, rfl, q2⟩) (fun _ Q2 q2 => ⟨_, rfl, e, _, 4, .int g.loops, rfl, rfl, SqL.of he1, at_of (j := 4) rfl rfl, _, _, rfl, rfl, _, rfl, q2⟩) q') (ite2 (fun c2 => ?_) (fun c2 => ?_))
      · -- loop
        rw [Bool.and_eq_true, Bool.and_eq_true] at c2
        have n0 := of_decide_eq_true c2.2.1
        have l0 := of_decide_eq_true c2.2.2
        obtain ⟨n', rfl⟩ : ∃ n', n = n' + 1 := ⟨n - 1, by omega⟩
        refine ⟨fun σ H2 => ∃ (y : V) (o : Option Ex), σ = [some (.ref p), some (.ref e), some (.int ((n' + 1 : Nat) : Int)), some (.int kind), some y, none, none, none, none, none, none, none, none] ∧ Dp K (New H0 H2) y (optD (o.map Ex.d)) ∧ (∀ f, o = some f → ExW g f ∧ f.depth ≤ 2) ∧ StOk H2 p c ∧ Keep p c H1 H2, ?_, ?_⟩
        · refine ⟨_, rfl, rfl, _, rfl, ite2 (fun c5 => ?_) (fun c5 => ?_)⟩
          · refine ⟨_, rfl, _, rfl, expr H1 _ 2 (by decide) st1 k1 fun v x H2 h1 h2 h3 st2 k2 => ?_⟩
            exact ⟨v, some x, rfl, h1, fun f z => by cases z; exact ⟨h2, by omega⟩, st2, k2⟩
          · exact ⟨.non, none, rfl, .non, by simp, st1, Keep.refl _ _ _⟩
        · rintro σ H2 ⟨y, o, rfl, ho, hw, st2, k2⟩
          obtain ⟨eo1, eo2⟩ := off e1
          have he2 := k2 _ _ eo1 eo2 he1
          have hV1 := (New.get v1).2
          obtain ⟨vo1, vo2⟩ := off v1
          have hV2 := k2 _ _ vo1 vo2 hV1
          refine ⟨_, rfl, _, rfl, num_small (by omega), _, _, rfl, rfl, Nat.le_of_lt (small1000 (by have := num_len (m := n' + 1) (by omega); have e : ("i" : Str).length = 1 := rfl; omega)), ?_⟩
          show gName 5 (V.str (loopName (n' + 1))) _ _ _
          refine ⟨_, rfl, e, _, 0, .ref C, rfl, rfl, SqL.of he2, at_of (j := 0) rfl rfl, ?_⟩
          refine ⟨_, rfl, e, _, 1, .ref V', rfl, rfl, SqL.of he2, at_of (j := 1) rfl rfl, _, rfl, by show 1 ≤ sizeLine; decide, fun L nL => ?_⟩
          have sL := same_new (o := .lst [.str (loopName (n' + 1))]) nL
          refine ⟨V', L, _, _, rfl, rfl, sL _ _ hV2, upd_same, ?_, fun V2 nV2 => ?_⟩
          · rw [List.length_map]
            exact Nat.le_of_lt (small1000 (by simp; omega))
          have sV := same_new (o := .lst (g.vars.map V.str ++ [.str (loopName (n' + 1))])) nV2
          have s24 := sL.trans sV
          have he4 := s24 _ _ he2
          refine ⟨_, rfl, e, _, 2, .ref Po, rfl, rfl, SqL.of he4, at_of (j := 2) rfl rfl, ?_⟩
          refine ⟨_, rfl, e, _, 3, .ref Ca, rfl, rfl, SqL.of he4, at_of (j := 3) rfl rfl, ?_⟩
          refine ⟨_, rfl, e, _, 4, .int g.loops, rfl, rfl, SqL.of he4, at_of (j := 4) rfl rfl, _, _, rfl, rfl, by show 5 ≤ sizeLine; decide, fun I nI => ?_⟩
          have sI := same_new (o := .lst [.ref C, .ref V2, .ref Po, .ref Ca, .int (g.loops - 1)]) nI
          have s25 := s24.trans sI
          have st5 := st2.same s25
          have k15 := k2.trans (Keep.same (p := p) (c := c) s25)
          obtain ⟨Io1, Io2⟩ := (st2.same s24).ne nI
          obtain ⟨Vo1, Vo2⟩ := (st2.same sL).ne nV2
          refine ⟨_, rfl, _, rfl, p, c, 4, rfl, st5, by decide, by decide, fun m H6 m0 m1 st6 k6 => ?_⟩
          have k16 := k15.trans k6
          have k06 := k1.trans k16
          have oat := Only.at (p := p) (c := c) st.ep st.ec
          have sH : Same (New He H1) (New (Only p c He) H6) := (New.keep st.ep st.ec k16).trans Only.sub
          have hI6 := k6 _ _ Io1 Io2 (upd_same (a := I) (o := .lst [.ref C, .ref V2, .ref Po, .ref Ca, .int (g.loops - 1)]))
          have hV6 := k6 _ _ Vo1 Vo2 (sI _ _ (upd_same (a := V2) (o := .lst (g.vars.map V.str ++ [.str (loopName (n' + 1))]))))
          have en6 : EnvAt K (New (Only p c He) H6) I { g with vars := g.vars ++ [loopName (n' + 1)], loops := g.loops - 1 } :=
            ⟨C, V2, Po, Ca, New.of (Only.off Io1 Io2) hI6, ⟨ts, sH _ _ t1, t2, fun i t q a b => Same.seqT sH (t3 i t q a b)⟩, by
              rw [List.map_append]
              exact New.of (Only.off Vo1 Vo2) hV6, ⟨us, sH _ _ u1, u2, fun i t q a b => Same.seqT sH (u3 i t q a b)⟩, ⟨ws, sH _ _ w1, w2, fun i t q a b => Same.seqT sH (w3 i t q a b)⟩⟩
          have here6 := st.keep k06 st6
          have en' : ((n' + 1 : Nat) : Int) - 1 = (n' : Int) := by omega
          refine ⟨_, _, rfl, rfl, _, rfl, _, rfl, _, rfl, _, rfl, _, _, rfl, rfl, imp n' _ _ _ _ rfl ⟨Only p c He, H0, p, c, I, _, by show [V.ref p, V.ref I, V.int (((n' + 1 : Nat) : Int) - 1)] = [V.ref p, V.ref I, V.int n']; rw [en'], ⟨st6, oat.1, oat.2, here6.op, here6.oc, here6.dom⟩, en6, ⟨⟨gz.1, ?_, gz.2.2.1, gz.2.2.2⟩, ?_, gne, gnn, gpt, gcm⟩, fun vb bb H7 g1 g2 st7 k7 => ?_⟩⟩
          · show (g.vars ++ [loopName (n' + 1)]).length ≤ 100
            rw [List.length_append, List.length_singleton]
            omega
          · show (g.vars ++ [loopName (n' + 1)]).length + n' ≤ 90
            rw [List.length_append, List.length_singleton]
            omega
          · refine ⟨by show 5 ≤ sizeLine; decide, fun T2 nT => ?_⟩
            have sT := same_new (o := .tup [.str "loop", .str (loopName (n' + 1)), .int (1 + m), y, vb]) nT
            have kT := Keep.same (p := p) (c := c) sT
            have k07 := k06.trans k7
            have k27 := ((Keep.same (p := p) (c := c) s25).trans k6).trans k7
            exact q _ (.loop (loopName (n' + 1)) (1 + m) o bb) _ (.tup (SqT.of (New.of ((st.keep k07 st7).new nT) upd_same)) (.cons (.str _) (.cons (.str _) (.cons (.int _) (.cons (dp6 ho (k27.trans kT)) (.cons (dp6 g1 kT) .nil)))))) (stw_loop l0 (by omega) (by omega) hw g2) (st7.same sT) (k07.trans kT)
      · dsimp only [tNext, tSeq]
        refine if_and (a := decide (kind ≤ 4)) (b := decide (((ws.map V.ref).length : Int) > 0)) (fun Q' q' => ⟨_, rfl, _, _, rfl, rfl, _, rfl, q'⟩)
          (fun _ Q' q' => ⟨_, rfl, e, _, 3, .ref Ca, rfl, rfl, SqL.of he1, at_of (j := 3) rfl rfl, Ca, _, rfl, .inl (SqL.of hCa), _, _, rfl, rfl, _, rfl, q'⟩) (ite2 (fun c3 => ?_) (fun c3 => ?_))
        · -- call
          rw [Bool.and_eq_true] at c3
          have w0 := of_decide_eq_true c3.2
          obtain ⟨o1, o2⟩ := off w1
          refine ⟨_, rfl, _, rfl, e, _, 3, .ref Ca, rfl, rfl, SqL.of he1, at_of (j := 3) rfl rfl, p, c, Ca, _, rfl, st1, hCa, ?_, ?_, o1, o2, fun y my H2 st2 k2 => ?_⟩
          · intro z
            rw [z] at w0
            exact absurd w0 (by decide)
          · rw [List.length_map, w2]
            have := gz.2.2.2
            omega
          obtain ⟨t, mt, rfl⟩ := List.mem_map.mp my
          obtain ⟨i, hi⟩ := List.getElem?_of_mem mt
          have il : i < g.calls.length := by
            rw [← w2]
            exact (List.getElem?_eq_some_iff.mp hi).1
          have hT := Same.seqT New.sub (Same.seqT (New.keep st.ep st.ec k2) (w3 i t _ hi (List.getElem?_eq_getElem il)))
          have mem := List.getElem_mem il
          have many4 := gcm _ mem
          have k02 := k1.trans k2
          refine ⟨t, _, rfl, hT, rfl, _, _, rfl, _, _, rfl, _, _, rfl, rfl, ?_⟩
          refine ⟨_, rfl, ((g.calls[i]).2.2 : Int), rfl, by omega, by omega, fun D nD => ?_⟩
          have Do := st2.ne nD
          have sD := same_new (o := .lst []) nD
          have stD := st2.same sD
          have kD := k02.trans (Keep.same sD)
          have hereD := st.keep kD stD
          have hDn : ∃ x, (upd H2 D (.lst [])) D = some x := ⟨_, upd_same⟩
          have D0 : H0 D = none := (st.keep k02 st2).new nD
          refine lc_range (n := (((g.calls[i]).2.2 : Nat) : Int).toNat) (fun j H' => ∃ (xs : List V) (es : List Ex), H' D = some (.lst xs) ∧ xs.length = j ∧ Dom (upd H2 D (.lst [])) H' ∧ es.length = j ∧ DpAll K (New (upd H2 D (.lst [])) H') xs (es.map Ex.d) ∧ (∀ e ∈ es, ExW g e ∧ e.depth ≤ 2) ∧ StOk H' p c ∧ Keep p c H H')
            ⟨[], [], upd_same, rfl, Dom.refl _, rfl, .nil, by simp, stD, kD⟩ ?_ ?_
          · rintro j H3 hj ⟨xs, es, x1, xl, dm, x2, x3, x4, st3, k3⟩
            refine ⟨rfl, ?_⟩
            refine ⟨_, rfl, _, rfl, He, upd H2 D (.lst []), p, c, e, g, 2, rfl, ⟨st3, st.ep, st.ec, stD.there.1, stD.there.2, dm⟩, enK k3, gz, by decide, fun v x H4 h1 h2 h3 st4 k4 => ?_⟩
            have sk := New.keep (p := p) (c := c) stD.there.1 stD.there.2 k4
            have su := New.upd (H0 := upd H2 D (.lst [])) (H := H4) (o := .lst (xs ++ [v])) hDn
            refine ⟨xs, k4 _ _ Do.1 Do.2 x1, small1000 (by omega), xs ++ [v], es ++ [x], upd_same, ?_, (dm.trans (k4.dom st4)).trans Dom.upd, ?_, ?_, ?_, st4.upd Do.1 Do.2, (k3.trans k4).upd (k02.free st2 nD)⟩
            · rw [List.length_append, xl]
              rfl
            · rw [List.length_append, x2]
              rfl
            · rw [List.map_append]
              exact dps_snoc (dps_same su (dps_same sk x3)) (dp_same su h1)
            · intro e' he
              rcases List.mem_append.mp he with he | he
              · exact x4 e' he
              · rw [List.mem_singleton.mp he]
                exact ⟨h2, by omega⟩
          · rintro H3 ⟨xs, es, x1, xl, dm, x2, x3, x4, st3, k3⟩
            have sb : Same (New (upd H2 D (.lst [])) H3) (New H0 H3) := New.back hereD.dom
            have dargs : Dp K (New H0 H3) (.ref D) (.list (es.map Ex.d)) := .lst (SqL.of (New.of D0 x1)) (dps_same sb x3)
            refine ⟨_, rfl, _, rfl, _, rfl, place H3 _ st3 k3 fun v x H4 h1 h2 st4 k4 => ?_⟩
            refine ⟨by show 2 ≤ sizeLine; decide, fun L nL => ?_⟩
            obtain ⟨Lp, Lc⟩ := st4.ne nL
            have sL := same_new (o := .lst [.non, v]) nL
            have kL := Keep.same (p := p) (c := c) sL
            refine ⟨p, c, L, _, rfl, st4.same sL, upd_same, by simp, by show 2 ≤ 100000; decide, Lp, Lc, fun y my H5 st5 k5 => ?_⟩
            refine ⟨_, rfl, _, rfl, _, rfl, by show 5 ≤ sizeLine; decide, fun T2 nT => ?_⟩
            have sT := same_new (o := .tup [.str "call", y, .str (g.calls[i]).1, .str (g.calls[i]).2.1, .ref D]) nT
            have kT := Keep.same (p := p) (c := c) sT
            have k45 := kL.trans k5
            have k05 := (k3.trans k4).trans k45
            obtain ⟨o, ho, hw⟩ : ∃ o : Option Pl, Dp K (New H0 H5) y (optD (o.map Pl.d)) ∧ ∀ q, o = some q → PlW g q := by
              simp only [List.mem_cons, List.mem_nil_iff, or_false] at my
              rcases my with rfl | rfl
              · exact ⟨none, .non, by simp⟩
              · exact ⟨some x, dp6 h1 k45, fun q e => by cases e; exact h2⟩
            have el : es.length = (g.calls[i]).2.2 := by omega
            exact q _ (.call o (g.calls[i]).1 (g.calls[i]).2.1 es) _ (.tup (SqT.of (New.of ((st.keep k05 st5).new nT) upd_same)) (.cons (.str _) (.cons (dp6 ho kT) (.cons (.str _) (.cons (.str _) (.cons (dp6 dargs ((k4.trans k45).trans kT)) .nil)))))) (stw_call (by rw [el]; exact mem) x4 hw) (st5.same sT) (k05.trans kT)
        · dsimp only [tNext, tSeq]
          refine if_and (a := decide (kind ≤ 6)) (b := decide (((us.map V.ref).length : Int) > 0)) (fun Q' q' => ⟨_, rfl, _, _, rfl, rfl, _, rfl, q'⟩)
            (fun _ Q' q' => ⟨_, rfl, e, _, 2, .ref Po, rfl, rfl, SqL.of he1, at_of (j := 2) rfl rfl, Po, _, rfl, .inl (SqL.of hPo), _, _, rfl, rfl, _, rfl, q'⟩) (ite2 (fun c4 => ?_) (fun c4 => ?_))
          · -- a port
            rw [Bool.and_eq_true] at c4
            have u0 := of_decide_eq_true c4.2
            obtain ⟨o1, o2⟩ := off u1
            refine ⟨_, rfl, _, rfl, e, _, 2, .ref Po, rfl, rfl, SqL.of he1, at_of (j := 2) rfl rfl, p, c, Po, _, rfl, st1, hPo, ?_, ?_, o1, o2, fun y my H2 st2 k2 => ?_⟩
            · intro z
              rw [z] at u0
              exact absurd u0 (by decide)
            · rw [List.length_map, u2]
              have := gz.2.2.1
              omega
            obtain ⟨t, mt, rfl⟩ := List.mem_map.mp my
            obtain ⟨i, hi⟩ := List.getElem?_of_mem mt
            have il : i < g.ports.length := by
              rw [← u2]
              exact (List.getElem?_eq_some_iff.mp hi).1
            have hT := Same.seqT New.sub (Same.seqT (New.keep st.ep st.ec k2) (u3 i t _ hi (List.getElem?_eq_getElem il)))
            have mem := List.getElem_mem il
            have k02 := k1.trans k2
            refine ⟨t, _, rfl, hT, rfl, _, _, rfl, _, _, rfl, rfl, ?_⟩
            refine ⟨_, rfl, rfl, _, rfl, ite2 (fun c5 => ?_) (fun c5 => ?_)⟩
            · have ew := V.str.inj (of_decide_eq_true c5)
              refine ⟨_, rfl, _, rfl, _, rfl, expr H2 _ 3 (by decide) st2 k02 fun v x H3 h1 h2 h3 st3 k3 => ?_⟩
              refine ⟨by show 3 ≤ sizeLine; decide, fun T2 nT => ?_⟩
              have sT := same_new (o := .tup [.str "write", .str (g.ports[i]).2, v]) nT
              have kT := Keep.same (p := p) (c := c) sT
              have k03 := k02.trans k3
              exact q _ (.write (g.ports[i]).2 x) _ (.tup (SqT.of (New.of ((st.keep k03 st3).new nT) upd_same)) (.cons (.str _) (.cons (.str _) (.cons (dp6 h1 kT) .nil)))) (stw_write (by rw [← ew]; exact mem) h2 (by omega)) (st3.same sT) (k03.trans kT)
            · have ew : (g.ports[i]).1 = ("in" : Str) := by
                rcases gpt _ mem with h | h
                · exact h
                · exact absurd (decide_eq_true (by rw [h])) c5
              refine ⟨_, rfl, _, rfl, place H2 _ st2 k02 fun v x H3 h1 h2 st3 k3 => ?_⟩
              refine ⟨_, rfl, by show 3 ≤ sizeLine; decide, fun T2 nT => ?_⟩
              have sT := same_new (o := .tup [.str "read", v, .str (g.ports[i]).2]) nT
              have kT := Keep.same (p := p) (c := c) sT
              have k03 := k02.trans k3
              exact q _ (.read x (g.ports[i]).2) _ (.tup (SqT.of (New.of ((st.keep k03 st3).new nT) upd_same)) (.cons (.str _) (.cons (dp6 h1 kT) (.cons (.str _) .nil)))) (stw_read h2 (by rw [← ew]; exact mem)) (st3.same sT) (k03.trans kT)
          · -- set
            refine ⟨_, rfl, _, rfl, place H1 _ st1 k1 fun v x H2 h1 h2 st2 k2 => ?_⟩
            have k02 := k1.trans k2
            refine ⟨_, rfl, _, rfl, _, rfl, p, c, 3, rfl, st2, by decide, by decide, fun m H3 m0 m1 st3 k3 => ?_⟩
            have k03 := k02.trans k3
            refine ⟨_, _, rfl, rfl, expr H3 _ (1 + m) (by omega) st3 k03 fun v2 x2 H4 g1 g2 g3 st4 k4 => ?_⟩
            refine ⟨by show 3 ≤ sizeLine; decide, fun T2 nT => ?_⟩
            have sT := same_new (o := .tup [.str "set", v, v2]) nT
            have kT := Keep.same (p := p) (c := c) sT
            have k04 := k03.trans k4
            exact q _ (.set x x2) _ (.tup (SqT.of (New.of ((st.keep k04 st4).new nT) upd_same)) (.cons (.str _) (.cons (dp6 h1 ((k3.trans k4).trans kT)) (.cons (dp6 g1 kT) .nil)))) (stw_set h2 g2 (by omega)) (st4.same sT) (k04.trans kT)
/-- both, to any depth that the laws draw -/
theorem both (T : Top K mg) : ∀ n : Nat, n ≤ 9 → FnOk P w K mg base CX0 (3 + (27 + 2 * n) + 1) T.a__law_statement T.d__law_statement ["state", "env", "nested"] (sp__law_statement K n) ∧ FnOk P w K mg base CX0 (3 + (28 + 2 * n) + 1) T.a__law_body T.d__law_body ["state", "env", "nested"] (sp__law_body K n)
  | 0, h => by
    have a := step__law_statement (P := P) (w := w) (base := base) (spB := fun _ _ _ _ => False) T (d := 27) (n := 0) (by omega) h (fun _ => ⟨fun _ _ _ _ h => h.elim, fun _ _ _ _ _ _ _ _ _ _ _ _ _ h => h.elim⟩) fun n' _ _ _ _ z => absurd z.symm (Nat.succ_ne_zero n')
    exact ⟨a, step__law_body (P := P) (w := w) (base := base) T (d := 28) (n := 0) (by omega) h fun _ => a⟩
  | n + 1, h => by
    have b := (both T n (by omega)).2
    have a := step__law_statement (P := P) (w := w) (base := base) T (d := 27 + 2 * (n + 1)) (n := n + 1) (by omega) h (fun _ => b.mono (by omega)) fun n' vs H Q E z q => by
      cases z
      exact q
    exact ⟨a, step__law_body (P := P) (w := w) (base := base) T (d := 28 + 2 * (n + 1)) (n := n + 1) (by omega) h fun _ => a.mono (by omega)⟩
end

/-! ### a heap without some places -/
open Classical in
noncomputable def Cut (S : Addr → Prop) (H : Hp) : Hp := fun a => if S a then none else H a
theorem Cut.sub {S : Addr → Prop} {H : Hp} : Same (Cut S H) H := fun a x h => by
  unfold Cut at h
  split at h
  · cases h
  · exact h
theorem Cut.at {S : Addr → Prop} {H : Hp} {a : Addr} {x : HO} (n : ¬ S a) (h : H a = some x) : Cut S H a = some x := by
  unfold Cut; rw [if_neg n]; exact h
theorem Cut.get {S : Addr → Prop} {H : Hp} {a : Addr} {x : HO} (h : Cut S H a = some x) : ¬ S a ∧ H a = some x := by
  unfold Cut at h
  split at h
  · cases h
  · rename_i n; exact ⟨n, h⟩
theorem Cut.mono {S S' : Addr → Prop} {H : Hp} (i : ∀ a, S' a → S a) : Same (Cut S H) (Cut S' H) := fun a x h => by
  obtain ⟨n, e⟩ := Cut.get h
  exact Cut.at (fun m => n (i a m)) e
theorem Cut.same {S : Addr → Prop} {H H' : Hp} (s : Same H H') : Same (Cut S H) (Cut S H') := fun a x h => by
  obtain ⟨n, e⟩ := Cut.get h
  exact Cut.at n (s a x e)
/-- all is kept but at the places left out -/
theorem Cut.keep {S : Addr → Prop} {H H' : Hp} (k : ∀ b x, ¬ S b → H b = some x → H' b = some x) : Same (Cut S H) (Cut S H') := fun a x h => by
  obtain ⟨n, e⟩ := Cut.get h
  exact Cut.at n (k a x n e)
theorem Cut.upd {S : Addr → Prop} {H : Hp} {a : Addr} {o : HO} (h : S a) : Same (Cut S H) (Cut S (upd H a o)) := Cut.keep fun b x n e => by
  rw [L2.upd_ne (fun z => n (by rw [z]; exact h))]; exact e
/-- a place that was free may be left out -/
theorem Cut.free {S : Addr → Prop} {H H' : Hp} {l : Addr} (s : Same H H') (n : H l = none) : Same (Cut S H) (Cut (fun a => S a ∨ a = l) H') := fun a x h => by
  obtain ⟨m, e⟩ := Cut.get h
  refine Cut.at ?_ (s a x e)
  rintro (z | rfl)
  · exact m z
  · rw [n] at e; cases e
theorem Cut.free2 {S : Addr → Prop} {H H' : Hp} {l m : Addr} (s : Same H H') (n : H l = none) (n2 : H m = none) : Same (Cut S H) (Cut (fun a => S a ∨ a = l ∨ a = m) H') := fun a x h => by
  obtain ⟨k, e⟩ := Cut.get h
  refine Cut.at ?_ (s a x e)
  rintro (z | rfl | rfl)
  · exact k z
  · rw [n] at e; cases e
  · rw [n2] at e; cases e
theorem Cut.all {H H' : Hp} (s : Same H H') : Same H (Cut (fun _ => False) H') := fun _ x h => Cut.at id (s _ x h)
/-- the places left out stand -/
def Live (S : Addr → Prop) (H : Hp) : Prop := ∀ a, S a → ∃ x, H a = some x
theorem Live.same {S : Addr → Prop} {H H' : Hp} (l : Live S H) (s : Same H H') : Live S H' := fun a m => let ⟨x, e⟩ := l a m; ⟨x, s a x e⟩
theorem Live.off {S : Addr → Prop} {H : Hp} {a : Addr} (l : Live S H) (n : H a = none) : ¬ S a := fun m => by
  obtain ⟨x, e⟩ := l a m
  rw [n] at e; cases e
theorem live0 {H : Hp} : Live (fun _ => False) H := fun _ h => h.elim
theorem Live.or {S : Addr → Prop} {H : Hp} {a : Addr} {x : HO} (l : Live S H) (h : H a = some x) : Live (fun b => S b ∨ b = a) H := fun b m => by
  rcases m with m | rfl
  · exact l b m
  · exact ⟨x, h⟩
/-! ### data: what it looks like -/
theorem dpT {K : PySem.W.Frag} {H : Hp} {v : V} {ds : List PyData} (h : Dp K H v (.tuple ds)) : ∃ t xs, v = .ref t ∧ SqT K H t xs ∧ DpAll K H xs ds := by
  cases h with
  | tup a b => exact ⟨_, _, rfl, a, b⟩
theorem dpL {K : PySem.W.Frag} {H : Hp} {v : V} {ds : List PyData} (h : Dp K H v (.list ds)) : ∃ t xs, v = .ref t ∧ SqL K H t xs ∧ DpAll K H xs ds := by
  cases h with
  | lst a b => exact ⟨_, _, rfl, a, b⟩
theorem dpS {K : PySem.W.Frag} {H : Hp} {v : V} {x : Str} (h : Dp K H v (.str x)) : v = .str x := by cases h; rfl
theorem dpI {K : PySem.W.Frag} {H : Hp} {v : V} {x : Int} (h : Dp K H v (.int x)) : v = .int x := by cases h; rfl
theorem dpN {K : PySem.W.Frag} {H : Hp} {v : V} (h : Dp K H v .none) : v = .non := by cases h; rfl
theorem dp0 {K : PySem.W.Frag} {H : Hp} {xs : List V} (h : DpAll K H xs []) : xs = [] := by cases h; rfl
theorem dp1 {K : PySem.W.Frag} {H : Hp} {xs : List V} {d : PyData} {ds : List PyData} (h : DpAll K H xs (d :: ds)) : ∃ v vs, xs = v :: vs ∧ Dp K H v d ∧ DpAll K H vs ds := by
  cases h with
  | cons a b => exact ⟨_, _, rfl, a, b⟩
theorem dp_at {K : PySem.W.Frag} {H : Hp} : ∀ {xs : List V} {ds : List PyData} {i : Nat} {d : PyData}, DpAll K H xs ds → ds[i]? = some d → ∃ v, xs[i]? = some v ∧ Dp K H v d
  | _, _, _, _, .nil, h => by simp at h
  | _, _, 0, _, .cons a _, h => by simp at h; subst h; exact ⟨_, rfl, a⟩
  | _, _, i + 1, _, .cons _ b, h => dp_at (i := i) b (by simpa using h)
theorem dp_at' {K : PySem.W.Frag} {H : Hp} : ∀ {xs : List V} {ds : List PyData} {i : Nat} {v : V}, DpAll K H xs ds → xs[i]? = some v → ∃ d, ds[i]? = some d ∧ Dp K H v d
  | _, _, _, _, .nil, h => by simp at h
  | _, _, 0, _, .cons a _, h => by simp at h; subst h; exact ⟨_, rfl, a⟩
  | _, _, i + 1, _, .cons _ b, h => dp_at' (i := i) b (by simpa using h)
theorem dps_app {K : PySem.W.Frag} {H : Hp} : ∀ {vs ws : List V} {ds es : List PyData}, DpAll K H vs ds → DpAll K H ws es → DpAll K H (vs ++ ws) (ds ++ es)
  | _, _, _, _, .nil, h => h
  | _, _, _, _, .cons a b, h => .cons a (dps_app b h)
theorem dps_set {K : PySem.W.Frag} {H : Hp} {v : V} {d : PyData} (h : Dp K H v d) : ∀ {vs : List V} {ds : List PyData} (i : Nat), DpAll K H vs ds → DpAll K H (vs.set i v) (ds.set i d)
  | _, _, _, .nil => .nil
  | _, _, 0, .cons _ b => .cons h b
  | _, _, i + 1, .cons a b => .cons a (dps_set h i b)
theorem dps_of {K : PySem.W.Frag} {H : Hp} : ∀ {vs : List V} {ds : List PyData}, vs.length = ds.length → (∀ (i : Nat) (v : V) (d : PyData), vs[i]? = some v → ds[i]? = some d → Dp K H v d) → DpAll K H vs ds
  | [], [], _, _ => .nil
  | [], _ :: _, h, _ => by simp at h
  | _ :: _, [], h, _ => by simp at h
  | v :: vs, d :: ds, h, f => .cons (f 0 v d rfl rfl) (dps_of (by simpa using h) fun i a b x y => f (i + 1) a b (by simpa using x) (by simpa using y))

/-! ### rows with names -/
/-- the rows' items 1 are these names -/
def NamedR (K : PySem.W.Frag) (H : Hp) (xs : List V) (ns : List Str) : Prop := ns.length = xs.length ∧ ∀ (i : Nat) v, xs[i]? = some v → ∃ (t : Addr) (fs : List V) (s : Str), v = .ref t ∧ SqT K H t fs ∧ fs[1]? = some (.str s) ∧ ns[i]? = some s
theorem idx_le {x : Str} : ∀ {ns : List Str} {i : Nat}, ns[i]? = some x → ns.idxOf x ≤ i
  | [], _, h => by cases h
  | y :: r, 0, h => by
    cases (Option.some.inj h)
    simp
  | y :: r, i + 1, h => by
    have h1 := idx_le (ns := r) (i := i) (by simpa using h)
    rw [List.idxOf_cons]
    cases (y == x)
    · show r.idxOf x + 1 ≤ i + 1
      omega
    · exact Nat.zero_le _
/-- the first index of a name, or -1 -/
def findN (ns : List Str) (x : Str) : Int := if x ∈ ns then ((ns.idxOf x : Nat) : Int) else -1
theorem findN_at {ns : List Str} {x : Str} {i : Nat} (h : ns[i]? = some x) (hl : ∀ j, j < i → ns[j]? ≠ some x) : findN ns x = i := by
  have hm : x ∈ ns := List.mem_of_getElem? h
  unfold findN
  rw [if_pos hm]
  have h1 : ns.idxOf x < ns.length := List.idxOf_lt_length_iff.mpr hm
  have h2 : ns[ns.idxOf x]? = some x := by
    rw [List.getElem?_eq_getElem h1, List.getElem_idxOf]
  have h3 : ¬ ns.idxOf x < i := fun z => hl _ z h2
  have h4 : ns.idxOf x ≤ i := idx_le h
  congr 1
  omega
section
variable {P : Program} {w : World} {K : PySem.W.Frag} {mg : Str → Option Value} {base : Heap}
def sp_find (K : PySem.W.Frag) : Sp := fun vs H Q _ => ∃ (L : Addr) (xs : List V) (ns : List Str) (x : Str), vs = [.ref L, .str x] ∧ SqL K H L xs ∧ NamedR K H xs ns ∧ xs.length < 1000 ∧ ∀ H', Same H H' → Q (.int (findN ns x)) H'
theorem ok_find (T : Top K mg) : FnOk P w K mg base CX0 1 T.a_find T.d_find ["rows", "name"]  (sp_find K) := by
  refine T.F_find.ok sc_find (fun vs H Q E h => ?_) (fun cdv A outer s H vs Q E hr h => ?_)
  · obtain ⟨_, _, _, _, rfl, _⟩ := h
    rfl
  · obtain ⟨L, xs, ns, x, rfl, hl, ⟨nl, nn⟩, few, q⟩ := h
    refine ⟨_, (pss_cons (ps_for PassesOwn.never rfl (pi_enum (by rfl) T.m_enumerate (pa_cons (pv 0) pa_nil)) (pg_tup rfl (pgs_cons (pg_name (i := 2) sc_find.nd rfl (by first | exact Or.inl rfl | exact Or.inr rfl)) (pgs_cons (pg_name (i := 3) sc_find.nd rfl (by first | exact Or.inl rfl | exact Or.inr rfl)) pgs_nil)))
  (pss_one (ps_if (pt_cmpR op_eq (pe_ix ix_tup (pv 3) pe_int (fun _ _ => rfl)) (pv 1) (nomark _))
  (pss_one (ps_ret (pv 2)))
  pss_nil)))
  (pss_one (ps_ret (pe_un un_neg pe_int)))), ?_⟩
    refine ⟨_, rfl, L, _, rfl, hl, for_enum (xs := xs) (fun i σ H' => ∃ y2 y3, σ = [some (.ref L), some (.str x), y2, y3] ∧ Same H H' ∧ ∀ (j : Nat), j < i → ns[j]? ≠ some x) ⟨none, none, rfl, fun _ _ h => h, fun j hj => absurd hj (Nat.not_lt_zero _)⟩
        (fun i σ H' _ ⟨_, _, _, s1, _⟩ => s1.seq hl) ?_ ?_⟩
    · rintro i v Tt σ H' hv ⟨y2, y3, rfl, s1, hf⟩ nT
      obtain ⟨t, fs, s, rfl, ht, h1, h2⟩ := nn i v hv
      have s2 : Same H (upd H' Tt (.tup [.int i, .ref t])) := s1.trans (same_new nT)
      refine ⟨Tt, _, rfl, SqT.of upd_same, rfl, _, _, rfl, _, _, rfl, rfl, ?_⟩
      have ht2 := s2.seqT ht
      dsimp only [List.set]
      walk_at "my rn"
      refine Rd.ixTq ht2 (Rd.at_val (j := 1) rfl h1) ?_
      walk_at "my rn"
      refine Rd.ifD (fun e => ?_) fun e => ?_
      · cases e
        walk_at "my rn"
        have q1 := q _ s2
        rw [findN_at h2 hf] at q1
        exact q1
      · exact ⟨_, _, rfl, s2, fun j hj z => by
          by_cases ji : j = i
          · subst ji
            rw [h2] at z
            cases z
            exact e rfl
          · exact hf j (by omega) z⟩
    · rintro σ H1 ⟨y2, y3, rfl, s1, hf⟩
      have e : findN ns x = -1 := by
        unfold findN
        rw [if_neg fun m => ?_]
        obtain ⟨j, hj⟩ := List.getElem?_of_mem m
        have := (List.getElem?_eq_some_iff.mp hj).1
        exact hf j (by omega) hj
      have q1 := q H1 s1
      rw [e] at q1
      walk_at "my rn"
      exact q1
end

/-! ### deadbeat.trees: the statements of a body -/
mutual
def Stm.flat : Stm → List Stm
  | .set p e => [.set p e]
  | .ifs e a b => .ifs e a b :: (flats a ++ flats b)
  | .loop n k e b => .loop n k e b :: flats b
  | .call p o op as => [.call p o op as]
  | .read p t => [.read p t]
  | .write t e => [.write t e]
def flats : List Stm → List Stm
  | [] => []
  | s :: r => s.flat ++ flats r
end
mutual
def Stm.nest : Stm → Nat
  | .set _ _ => 0
  | .ifs _ a b => 1 + max (nests a) (nests b)
  | .loop _ _ _ b => 1 + nests b
  | .call _ _ _ _ => 0
  | .read _ _ => 0
  | .write _ _ => 0
def nests : List Stm → Nat
  | [] => 0
  | s :: r => max s.nest (nests r)
end
def Stm.kids : Stm → List Stm
  | .ifs _ a b => a ++ b
  | .loop _ _ _ b => b
  | _ => []
theorem flats_app : ∀ a b : List Stm, flats (a ++ b) = flats a ++ flats b
  | [], b => rfl
  | s :: r, b => by
    show s.flat ++ flats (r ++ b) = (s.flat ++ flats r) ++ flats b
    rw [flats_app r b, List.append_assoc]
theorem flat_kids : ∀ s : Stm, s.flat = s :: flats s.kids
  | .set _ _ => by unfold Stm.flat Stm.kids flats; rfl
  | .ifs _ a b => by unfold Stm.flat Stm.kids; rw [flats_app]
  | .loop _ _ _ b => by unfold Stm.flat Stm.kids; rfl
  | .call _ _ _ _ => by unfold Stm.flat Stm.kids flats; rfl
  | .read _ _ => by unfold Stm.flat Stm.kids flats; rfl
  | .write _ _ => by unfold Stm.flat Stm.kids flats; rfl
theorem flats_cons (s : Stm) (r : List Stm) : flats (s :: r) = s :: flats (s.kids ++ r) := by
  show s.flat ++ flats r = _
  rw [flat_kids, flats_app]; rfl
theorem flats_len : ∀ b : List Stm, b.length ≤ (flats b).length
  | [] => Nat.zero_le _
  | s :: r => by
    rw [flats_cons, flats_app]
    have := flats_len r
    simp only [List.length_cons, List.length_append]
    omega
theorem stmsD_map : ∀ b : List Stm, stmsD b = b.map Stm.d
  | [] => rfl
  | s :: r => by
    show s.d :: stmsD r = s.d :: r.map Stm.d
    rw [stmsD_map r]
theorem stmsD_app (a b : List Stm) : stmsD (a ++ b) = stmsD a ++ stmsD b := by
  rw [stmsD_map, stmsD_map, stmsD_map, List.map_append]
theorem nests_mem {b : List Stm} {s : Stm} : s ∈ b → s.nest ≤ nests b := by
  induction b with
  | nil => intro h; cases h
  | cons a r ih =>
    intro h
    show s.nest ≤ max a.nest (nests r)
    rcases List.mem_cons.mp h with rfl | h
    · exact Nat.le_max_left _ _
    · exact Nat.le_trans (ih h) (Nat.le_max_right _ _)
theorem flats_mem {b : List Stm} {s : Stm} (h : s ∈ b) : s.flat.length ≤ (flats b).length := by
  induction b with
  | nil => cases h
  | cons a r ih =>
    show s.flat.length ≤ (a.flat ++ flats r).length
    rw [List.length_append]
    rcases List.mem_cons.mp h with rfl | h
    · omega
    · have := ih h; omega
theorem Cut.but {S : Addr → Prop} {H1 H : Hp} {D : Addr} (n : H1 D = none) (b : Rd.But D H1 H) : Same (Cut S H1) (Cut (fun a => S a ∨ a = D) H) := fun a x h => by
  obtain ⟨m, e⟩ := Cut.get h
  have ne : a ≠ D := fun z => by rw [z, n] at e; cases e
  refine Cut.at ?_ (b a x ne e)
  rintro (z | z)
  · exact m z
  · exact ne z
theorem Live.but {S : Addr → Prop} {H1 H : Hp} {D : Addr} (l : Live S H1) (n : H1 D = none) (b : Rd.But D H1 H) (hD : ∃ x, H D = some x) : Live (fun a => S a ∨ a = D) H := fun a m => by
  rcases m with m | rfl
  · obtain ⟨x, e⟩ := l a m
    exact ⟨x, b a x (fun z => by rw [z, n] at e; cases e) e⟩
  · exact hD
theorem last_at' {α : Type} (xs : List α) (x : α) : (xs ++ [x])[(xs ++ [x]).length - 1]? = some x := by simp
section
variable {P : Program} {w : World} {K : PySem.W.Frag} {mg : Str → Option Value} {base : Heap}
def sp__copied (K : PySem.W.Frag) (n : Nat) : Sp := fun vs H Q _ => ∃ (S : Addr → Prop) (v : V) (b : List Stm), vs = [v] ∧ Live S H ∧ Dp K (Cut S H) v (.list (stmsD b)) ∧ nests b ≤ n ∧ (flats b).length ≤ 50000 ∧
  ∀ (L : Addr) (ws : List V) (H' : Hp), Same H H' → H L = none → H' L = some (.lst ws) → DpAll K (Cut S H') ws (stmsD b) → Q (.ref L) H'
def sp__copied_statement (K : PySem.W.Frag) (n : Nat) : Sp := fun vs H Q _ => ∃ (S : Addr → Prop) (v : V) (s : Stm), vs = [v] ∧ Live S H ∧ Dp K (Cut S H) v s.d ∧ s.nest ≤ n ∧ s.flat.length ≤ 50000 ∧
  ∀ (v' : V) (H' : Hp), Same H H' → Dp K (Cut S H') v' s.d → Q v' H'
theorem step__copied (T : Top K mg) {d n : Nat} (hd : 1 ≤ 3 + d) (ihS : Top K mg → FnOk P w K mg base CX0 (3 + d) T.a__copied_statement T.d__copied_statement ["statement"] (sp__copied_statement K n)) :
    FnOk P w K mg base CX0 (3 + d + 1) T.a__copied T.d__copied ["body"] (sp__copied K n) := by
  refine T.F__copied.ok sc__copied (fun vs H Q E h => ?_) (fun cdv A outer s H vs Q E hr h => ?_)
  · obtain ⟨_, _, _, rfl, _⟩ := h
    rfl
  · obtain ⟨S, v, b, rfl, lv, dv, ne, sm, q⟩ := h
    refine ⟨_, (pss_one (ps_ret (pe_lc (own := [("statement", 1)]) (g := gName 1) (tt := tYes) rfl sc__copied.nd (pi_list (pv 0)) (blkOk_by (N := ["body", "statement"]) (sc := defScope s__copied) (by decide +kernel)) (fun _ _ _ _ _ => pg_name (i := 1) sc__copied.nd rfl (Or.inl rfl)) (fun _ _ _ _ _ => pts_nil) (fun _ _ _ _ _ => (pe_call (ihS T) (hr.mono (by show _ ≤ 3 + d; omega)) (by rfl) T.g__copied_statement T.F__copied_statement.kp T.b__copied_statement .nil pass0 (pa_cons (pv 1) pa_nil)))))), ?_⟩
    obtain ⟨t, xs, rfl, hx, ha⟩ := dpL dv
    have hx := Cut.sub.seq hx
    have lx : xs.length = b.length := by rw [dps_len ha, stmsD_map, List.length_map]
    have lb := flats_len b
    rw [show ∀ a0 : V, L2.start ["body", "statement"] [a0] = [some a0, none] from fun _ => rfl]
    walk_at "my rn"
    refine fun D nD => Rd.lc_rel (walk_list (xs := xs)) (fun i y H' => ∃ d, (stmsD b)[i]? = some d ∧ Dp K (Cut (fun a => S a ∨ a = D) H') y d) nD (by omega)
      (fun i y H1 H2 h bt => ?_) (fun H1 bt => (bt.to nD).seq hx) (fun i x H1 H2 Kt hi bt hDl y kt => ?_) (fun H1 ys ly hy sm2 hD => ?_)
    · obtain ⟨d, e, h⟩ := h
      exact ⟨d, e, dp_same (Cut.keep fun b x n e => bt b x (fun z => n (.inr z)) e) h⟩
    · obtain ⟨rfl, hxi⟩ := y
      obtain ⟨d, e, dd⟩ := dp_at' ha hxi
      obtain ⟨s, es, rfl⟩ : ∃ s, b[i]? = some s ∧ s.d = d := by
        rw [stmsD_map, List.getElem?_map] at e
        cases z : b[i]? with
        | none => rw [z] at e; cases e
        | some s => rw [z] at e; exact ⟨s, rfl, Option.some.inj e⟩
      have ms := List.mem_of_getElem? es
      simp only [List.map_cons, List.map_nil, L2.wipe, List.set_cons_succ, List.set_cons_zero]
      walk_at "my rn"
      refine ⟨rfl, ?_⟩
      walk_at "my rn"
      refine ⟨fun a => S a ∨ a = D, x, s, rfl, lv.but nD bt (by obtain ⟨xs, h⟩ := hDl; exact ⟨_, h⟩), dp_same (Cut.but nD bt) dd, Nat.le_trans (nests_mem ms) ne, Nat.le_trans (flats_mem ms) sm, fun v' H3 s3 d3 => ?_⟩
      exact kt _ _ ⟨_, e, d3⟩ s3
    · have al : DpAll K (Cut S H1) ys (stmsD b) := dps_of (by rw [ly, lx, stmsD_map, List.length_map]) fun i v d h1 h2 => by
        obtain ⟨d', e, h⟩ := hy i v h1
        rw [h2] at e; cases e
        exact dp_same (Cut.mono fun a m => .inl m) h
      walk_at "my rn"
      exact q D ys H1 sm2 nD hD al
theorem step__copied_statement (T : Top K mg) {d n : Nat} {spB : Sp} (hd : 1 ≤ 3 + d) (ihB : Top K mg → FnOk P w K mg base CX0 (3 + d) T.a__copied T.d__copied ["body"] spB) (imp : ∀ (n' : Nat) vs H Q E, n = n' + 1 → sp__copied K n' vs H Q E → spB vs H Q E) :
    FnOk P w K mg base CX0 (3 + d + 1) T.a__copied_statement T.d__copied_statement ["statement"] (sp__copied_statement K n) := by
  refine T.F__copied_statement.ok sc__copied_statement (fun vs H Q E h => ?_) (fun cdv A outer s H vs Q E hr h => ?_)
  · obtain ⟨_, _, _, rfl, _⟩ := h
    rfl
  · obtain ⟨S, v, s, rfl, lv, dv, ne, sm, q⟩ := h
    refine ⟨_, (pss_cons (ps_set (i := 1) sc__copied_statement.nd rfl (by first | exact Or.inl rfl | exact Or.inr rfl) (pe_ix ix_tup (pv 0) pe_int (fun _ _ => rfl)))
  (pss_cons (ps_if (pt_cmpR op_eq (pv 1) pe_str (nomark _))
  (pss_cons (ps_asg (pv 0) (pg_tup rfl (pgs_cons (pg_name (i := 2) sc__copied_statement.nd rfl (by first | exact Or.inl rfl | exact Or.inr rfl)) (pgs_cons (pg_name (i := 3) sc__copied_statement.nd rfl (by first | exact Or.inl rfl | exact Or.inr rfl)) (pgs_cons (pg_name (i := 4) sc__copied_statement.nd rfl (by first | exact Or.inl rfl | exact Or.inr rfl)) (pgs_cons (pg_name (i := 5) sc__copied_statement.nd rfl (by first | exact Or.inl rfl | exact Or.inr rfl)) pgs_nil))))))
  (pss_one (ps_ret (pe_tup (pa_cons pe_str (pa_cons (pv 3) (pa_cons (pe_call (ihB T) (hr.mono (by show _ ≤ 3 + d; omega)) (by rfl) T.g__copied T.F__copied.kp T.b__copied .nil pass0 (pa_cons (pv 4) pa_nil)) (pa_cons (pe_call (ihB T) (hr.mono (by show _ ≤ 3 + d; omega)) (by rfl) T.g__copied T.F__copied.kp T.b__copied .nil pass0 (pa_cons (pv 5) pa_nil)) pa_nil))))))))
  pss_nil)
  (pss_cons (ps_if (pt_cmpR op_eq (pv 1) pe_str (nomark _))
  (pss_cons (ps_asg (pv 0) (pg_tup rfl (pgs_cons (pg_name (i := 2) sc__copied_statement.nd rfl (by first | exact Or.inl rfl | exact Or.inr rfl)) (pgs_cons (pg_name (i := 6) sc__copied_statement.nd rfl (by first | exact Or.inl rfl | exact Or.inr rfl)) (pgs_cons (pg_name (i := 7) sc__copied_statement.nd rfl (by first | exact Or.inl rfl | exact Or.inr rfl)) (pgs_cons (pg_name (i := 3) sc__copied_statement.nd rfl (by first | exact Or.inl rfl | exact Or.inr rfl)) (pgs_cons (pg_name (i := 8) sc__copied_statement.nd rfl (by first | exact Or.inl rfl | exact Or.inr rfl)) pgs_nil)))))))
  (pss_one (ps_ret (pe_tup (pa_cons pe_str (pa_cons (pv 6) (pa_cons (pv 7) (pa_cons (pv 3) (pa_cons (pe_call (ihB T) (hr.mono (by show _ ≤ 3 + d; omega)) (by rfl) T.g__copied T.F__copied.kp T.b__copied .nil pass0 (pa_cons (pv 8) pa_nil)) pa_nil)))))))))
  pss_nil)
  (pss_cons (ps_if (pt_cmpR op_eq (pv 1) pe_str (nomark _))
  (pss_cons (ps_asg (pv 0) (pg_tup rfl (pgs_cons (pg_name (i := 2) sc__copied_statement.nd rfl (by first | exact Or.inl rfl | exact Or.inr rfl)) (pgs_cons (pg_name (i := 9) sc__copied_statement.nd rfl (by first | exact Or.inl rfl | exact Or.inr rfl)) (pgs_cons (pg_name (i := 10) sc__copied_statement.nd rfl (by first | exact Or.inl rfl | exact Or.inr rfl)) (pgs_cons (pg_name (i := 11) sc__copied_statement.nd rfl (by first | exact Or.inl rfl | exact Or.inr rfl)) (pgs_cons (pg_name (i := 12) sc__copied_statement.nd rfl (by first | exact Or.inl rfl | exact Or.inr rfl)) pgs_nil)))))))
  (pss_one (ps_ret (pe_tup (pa_cons pe_str (pa_cons (pv 9) (pa_cons (pv 10) (pa_cons (pv 11) (pa_cons (pe_callTy call_list_of (by rfl) T.m_list (by decide +kernel) (pa_cons (pv 12) pa_nil)) pa_nil)))))))))
  pss_nil)
  (pss_one (ps_ret (pv 0))))))), ?_⟩
    have kne : ∀ a b : Str, decide (V.str a = V.str b) = decide (a = b) := fun a b => by
      by_cases h : a = b
      · rw [decide_eq_true h, decide_eq_true (by rw [h])]
      · rw [decide_eq_false h, decide_eq_false (fun z => h (V.str.inj z))]
    rw [show ∀ a0 : V, L2.start ["statement", "kind", "_", "e", "then", "other", "name", "count", "body", "place", "thing", "operation", "given"] [a0] = [some a0, none, none, none, none, none, none, none, none, none, none, none, none] from fun _ => rfl]
    cases s with
    | set p e =>
      obtain ⟨t, xs, rfl, hx, ha⟩ := dpT dv
      obtain ⟨v0, x0, rfl, d0, ha⟩ := dp1 ha
      have hx := Same.seqT Cut.sub hx
      cases dpS d0
      walk_at "my rn"
      refine Rd.ixTq hx (Rd.at_val (j := 0) rfl rfl) ?_
      walk_at "my rn"
      refine Rd.ifD (fun z => absurd (V.str.inj z) (by decide +kernel)) fun _ => ?_
      walk_at "my rn"
      refine Rd.ifD (fun z => absurd (V.str.inj z) (by decide +kernel)) fun _ => ?_
      walk_at "my rn"
      refine Rd.ifD (fun z => absurd (V.str.inj z) (by decide +kernel)) fun _ => ?_
      walk_at "my rn"
      exact q _ _ (Same.refl _) dv
    | ifs e a b =>
      obtain ⟨t, xs, rfl, hx, ha⟩ := dpT dv
      obtain ⟨v0, x0, rfl, d0, ha⟩ := dp1 ha
      obtain ⟨v1, x0, rfl, d1, ha⟩ := dp1 ha
      obtain ⟨v2, x0, rfl, d2, ha⟩ := dp1 ha
      obtain ⟨v3, x0, rfl, d3, ha⟩ := dp1 ha
      cases dp0 ha
      have hx := Same.seqT Cut.sub hx
      cases dpS d0
      obtain ⟨n', rfl⟩ : ∃ n', n = n' + 1 := ⟨n - 1, by simp only [Stm.nest] at ne; omega⟩
      simp only [Stm.nest] at ne
      simp only [Stm.flat, List.length_cons, List.length_append] at sm
      walk_at "my rn"
      refine Rd.ifD (fun _ => ?_) fun z => absurd rfl z
      walk_at "my rn"
      refine imp n' _ _ _ _ rfl ⟨S, v2, a, rfl, lv, d2, by omega, by omega, fun L ws H1 s1 nL hL al => ?_⟩
      walk_at "my rn"
      refine imp n' _ _ _ _ rfl ⟨S, v3, b, rfl, lv.same s1, dp_same (Cut.same s1) d3, by omega, by omega, fun L2 ws2 H2 s2 nL2 hL2 al2 => ?_⟩
      walk_at "my rn"
      intro p H3 np s3 hp
      have s13 := s2.trans s3
      have o1 := lv.off nL
      have o2 := (lv.same s1).off nL2
      have o3 := ((lv.same s1).same s2).off np
      exact q _ H3 (s1.trans s13) (.tup (SqT.of (Cut.at o3 hp)) (.cons (.str _) (.cons (dp_same (Cut.same (s1.trans s13)) d1) (.cons (.lst (SqL.of (Cut.at o1 (s13 _ _ hL))) (dps_same (Cut.same s13) al)) (.cons (.lst (SqL.of (Cut.at o2 (s3 _ _ hL2))) (dps_same (Cut.same s3) al2)) .nil)))))
    | loop nm k e b =>
      obtain ⟨t, xs, rfl, hx, ha⟩ := dpT dv
      obtain ⟨v0, x0, rfl, d0, ha⟩ := dp1 ha
      obtain ⟨v1, x0, rfl, d1, ha⟩ := dp1 ha
      obtain ⟨v2, x0, rfl, d2, ha⟩ := dp1 ha
      obtain ⟨v3, x0, rfl, d3, ha⟩ := dp1 ha
      obtain ⟨v4, x0, rfl, d4, ha⟩ := dp1 ha
      cases dp0 ha
      have hx := Same.seqT Cut.sub hx
      cases dpS d0
      obtain ⟨n', rfl⟩ : ∃ n', n = n' + 1 := ⟨n - 1, by simp only [Stm.nest] at ne; omega⟩
      simp only [Stm.nest] at ne
      simp only [Stm.flat, List.length_cons, List.length_append] at sm
      walk_at "my rn"
      refine Rd.ifD (fun z => absurd (V.str.inj z) (by decide +kernel)) fun _ => ?_
      walk_at "my rn"
      refine Rd.ifD (fun _ => ?_) fun z => absurd rfl z
      walk_at "my rn"
      refine imp n' _ _ _ _ rfl ⟨S, v4, b, rfl, lv, d4, by omega, by omega, fun L ws H1 s1 nL hL al => ?_⟩
      walk_at "my rn"
      intro p H3 np s3 hp
      have o1 := lv.off nL
      have o3 := (lv.same s1).off np
      exact q _ H3 (s1.trans s3) (.tup (SqT.of (Cut.at o3 hp)) (.cons (.str _) (.cons (dp_same (Cut.same (s1.trans s3)) d1) (.cons (dp_same (Cut.same (s1.trans s3)) d2) (.cons (dp_same (Cut.same (s1.trans s3)) d3) (.cons (.lst (SqL.of (Cut.at o1 (s3 _ _ hL))) (dps_same (Cut.same s3) al)) .nil))))))
    | call p o op as =>
      obtain ⟨t, xs, rfl, hx, ha⟩ := dpT dv
      obtain ⟨v0, x0, rfl, d0, ha⟩ := dp1 ha
      obtain ⟨v1, x0, rfl, d1, ha⟩ := dp1 ha
      obtain ⟨v2, x0, rfl, d2, ha⟩ := dp1 ha
      obtain ⟨v3, x0, rfl, d3, ha⟩ := dp1 ha
      obtain ⟨v4, x0, rfl, d4, ha⟩ := dp1 ha
      cases dp0 ha
      have hx := Same.seqT Cut.sub hx
      cases dpS d0
      obtain ⟨t4, ys, rfl, hy, ha⟩ := dpL d4
      have hy := Cut.sub.seq hy
      walk_at "my rn"
      refine Rd.ifD (fun z => absurd (V.str.inj z) (by decide +kernel)) fun _ => ?_
      walk_at "my rn"
      refine Rd.ifD (fun z => absurd (V.str.inj z) (by decide +kernel)) fun _ => ?_
      walk_at "my rn"
      refine Rd.ifD (fun _ => ?_) fun z => absurd rfl z
      walk_at "my rn"
      intro L H1 nL s1 hL
      walk_at "my rn"
      intro p H3 np s3 hp
      have o1 := lv.off nL
      have o3 := (lv.same s1).off np
      have s13 := s1.trans s3
      exact q _ H3 s13 (.tup (SqT.of (Cut.at o3 hp)) (.cons (.str _) (.cons (dp_same (Cut.same s13) d1) (.cons (dp_same (Cut.same s13) d2) (.cons (dp_same (Cut.same s13) d3) (.cons (.lst (SqL.of (Cut.at o1 (s3 _ _ hL))) (dps_same (Cut.same s13) ha)) .nil))))))
    | read p t =>
      obtain ⟨t, xs, rfl, hx, ha⟩ := dpT dv
      obtain ⟨v0, x0, rfl, d0, ha⟩ := dp1 ha
      have hx := Same.seqT Cut.sub hx
      cases dpS d0
      walk_at "my rn"
      refine Rd.ixTq hx (Rd.at_val (j := 0) rfl rfl) ?_
      walk_at "my rn"
      refine Rd.ifD (fun z => absurd (V.str.inj z) (by decide +kernel)) fun _ => ?_
      walk_at "my rn"
      refine Rd.ifD (fun z => absurd (V.str.inj z) (by decide +kernel)) fun _ => ?_
      walk_at "my rn"
      refine Rd.ifD (fun z => absurd (V.str.inj z) (by decide +kernel)) fun _ => ?_
      walk_at "my rn"
      exact q _ _ (Same.refl _) dv
    | write t e =>
      obtain ⟨t, xs, rfl, hx, ha⟩ := dpT dv
      obtain ⟨v0, x0, rfl, d0, ha⟩ := dp1 ha
      have hx := Same.seqT Cut.sub hx
      cases dpS d0
      walk_at "my rn"
      refine Rd.ixTq hx (Rd.at_val (j := 0) rfl rfl) ?_
      walk_at "my rn"
      refine Rd.ifD (fun z => absurd (V.str.inj z) (by decide +kernel)) fun _ => ?_
      walk_at "my rn"
      refine Rd.ifD (fun z => absurd (V.str.inj z) (by decide +kernel)) fun _ => ?_
      walk_at "my rn"
      refine Rd.ifD (fun z => absurd (V.str.inj z) (by decide +kernel)) fun _ => ?_
      walk_at "my rn"
      exact q _ _ (Same.refl _) dv
/-- both, to a nesting of 7 -/
theorem copied_both (T : Top K mg) : ∀ n : Nat, n ≤ 7 → FnOk P w K mg base CX0 (3 + 2 * n + 1) T.a__copied_statement T.d__copied_statement ["statement"] (sp__copied_statement K n) ∧ FnOk P w K mg base CX0 (3 + (2 * n + 1) + 1) T.a__copied T.d__copied ["body"] (sp__copied K n)
  | 0, h => by
    have a := step__copied_statement (P := P) (w := w) (base := base) (spB := fun _ _ _ _ => False) T (d := 0) (n := 0) (by omega) (fun _ => ⟨fun _ _ _ _ h => h.elim, fun _ _ _ _ _ _ _ _ _ _ _ _ _ h => h.elim⟩) fun n' _ _ _ _ z => absurd z.symm (Nat.succ_ne_zero n')
    exact ⟨a, step__copied (P := P) (w := w) (base := base) T (d := 1) (n := 0) (by omega) fun _ => a⟩
  | n + 1, h => by
    have b := (copied_both T n (by omega)).2
    have a := step__copied_statement (P := P) (w := w) (base := base) T (d := 2 * (n + 1)) (n := n + 1) (by omega) (fun _ => b.mono (by omega)) fun n' vs H Q E z q => by
      cases z
      exact q
    exact ⟨a, step__copied (P := P) (w := w) (base := base) T (d := 2 * (n + 1) + 1) (n := n + 1) (by omega) fun _ => a.mono (by omega)⟩
theorem ok__copied (T : Top K mg) : FnOk P w K mg base CX0 20 T.a__copied T.d__copied ["body"] (sp__copied K 7) := (copied_both T 7 (by decide)).2.mono (by decide)
def sp__inside (K : PySem.W.Frag) : Sp := fun vs H Q _ => ∃ (S : Addr → Prop) (v : V) (s : Stm), vs = [v] ∧ Live S H ∧ Dp K (Cut S H) v s.d ∧ s.kids.length ≤ 50000 ∧
  ∀ (L : Addr) (ws : List V) (H' : Hp), Same H H' → SqL K H' L ws → DpAll K (Cut S H') ws (stmsD s.kids) → Q (.ref L) H'
theorem ok__inside (T : Top K mg) : FnOk P w K mg base CX0 1 T.a__inside T.d__inside ["statement"]  (sp__inside K) := by
  refine T.F__inside.ok sc__inside (fun vs H Q E h => ?_) (fun cdv A outer s H vs Q E hr h => ?_)
  · obtain ⟨_, _, _, rfl, _⟩ := h
    rfl
  · obtain ⟨S, v, s, rfl, lv, dv, sm, q⟩ := h
    refine ⟨_, (pss_cons (ps_if (pt_cmpR op_eq (pe_ix ix_tup (pv 0) pe_int (fun _ _ => rfl)) pe_str (nomark _))
  (pss_one (ps_ret (pe_op op_catQ (pe_ix ix_tup (pv 0) pe_int (fun _ _ => rfl)) (pe_ix ix_tup (pv 0) pe_int (fun _ _ => rfl)))))
  pss_nil)
  (pss_cons (ps_if (pt_cmpR op_eq (pe_ix ix_tup (pv 0) pe_int (fun _ _ => rfl)) pe_str (nomark _))
  (pss_one (ps_ret (pe_ix ix_tup (pv 0) pe_int (fun _ _ => rfl))))
  pss_nil)
  (pss_one (ps_ret (pe_lst pa_nil))))), ?_⟩
    rw [show ∀ a0 : V, L2.start ["statement"] [a0] = [some a0] from fun _ => rfl]
    cases s with
    | set p e =>
      obtain ⟨t, xs, rfl, hx, ha⟩ := dpT dv
      obtain ⟨v0, x0, rfl, d0, ha⟩ := dp1 ha
      have hx := Same.seqT Cut.sub hx
      cases dpS d0
      walk_at "my rn"
      refine Rd.ixTq hx (Rd.at_val (j := 0) rfl rfl) ?_
      walk_at "my rn"
      refine Rd.ifD (fun z => absurd (V.str.inj z) (by decide +kernel)) fun _ => ?_
      walk_at "my rn"
      refine Rd.ixTq hx (Rd.at_val (j := 0) rfl rfl) ?_
      walk_at "my rn"
      refine Rd.ifD (fun z => absurd (V.str.inj z) (by decide +kernel)) fun _ => ?_
      walk_at "my rn"
      intro L H1 nL s1 hL
      exact q _ _ _ s1 (SqL.of hL) .nil
    | ifs e a b =>
      obtain ⟨t, xs, rfl, hx, ha⟩ := dpT dv
      obtain ⟨v0, x0, rfl, d0, ha⟩ := dp1 ha
      obtain ⟨v1, x0, rfl, d1, ha⟩ := dp1 ha
      obtain ⟨v2, x0, rfl, d2, ha⟩ := dp1 ha
      obtain ⟨v3, x0, rfl, d3, ha⟩ := dp1 ha
      cases dp0 ha
      have hx := Same.seqT Cut.sub hx
      cases dpS d0
      obtain ⟨ta, xa, rfl, hxa, haa⟩ := dpL d2
      obtain ⟨tb, xb, rfl, hxb, hab⟩ := dpL d3
      have hxa := Cut.sub.seq hxa
      have hxb := Cut.sub.seq hxb
      have la := dps_len haa
      have lb := dps_len hab
      rw [stmsD_map, List.length_map] at la lb
      simp only [Stm.kids, List.length_append] at sm
      walk_at "my rn"
      refine Rd.ifD (fun _ => ?_) fun z => absurd rfl z
      walk_at "my rn"
      refine Rd.catQ hxa hxb (by omega) fun L H1 nL s1 hL => ?_
      refine q _ _ _ s1 (SqL.of hL) ?_
      simp only [Stm.kids, stmsD_app]
      exact dps_app (dps_same (Cut.same s1) haa) (dps_same (Cut.same s1) hab)
    | loop nm k e b =>
      obtain ⟨t, xs, rfl, hx, ha⟩ := dpT dv
      obtain ⟨v0, x0, rfl, d0, ha⟩ := dp1 ha
      obtain ⟨v1, x0, rfl, d1, ha⟩ := dp1 ha
      obtain ⟨v2, x0, rfl, d2, ha⟩ := dp1 ha
      obtain ⟨v3, x0, rfl, d3, ha⟩ := dp1 ha
      obtain ⟨v4, x0, rfl, d4, ha⟩ := dp1 ha
      cases dp0 ha
      have hx := Same.seqT Cut.sub hx
      cases dpS d0
      obtain ⟨ta, xa, rfl, hxa, haa⟩ := dpL d4
      have hxa := Cut.sub.seq hxa
      walk_at "my rn"
      refine Rd.ifD (fun z => absurd (V.str.inj z) (by decide +kernel)) fun _ => ?_
      walk_at "my rn"
      refine Rd.ifD (fun _ => ?_) fun z => absurd rfl z
      walk_at "my rn"
      exact q _ _ _ (Same.refl _) hxa haa
    | call p o op as =>
      obtain ⟨t, xs, rfl, hx, ha⟩ := dpT dv
      obtain ⟨v0, x0, rfl, d0, ha⟩ := dp1 ha
      have hx := Same.seqT Cut.sub hx
      cases dpS d0
      walk_at "my rn"
      refine Rd.ixTq hx (Rd.at_val (j := 0) rfl rfl) ?_
      walk_at "my rn"
      refine Rd.ifD (fun z => absurd (V.str.inj z) (by decide +kernel)) fun _ => ?_
      walk_at "my rn"
      refine Rd.ixTq hx (Rd.at_val (j := 0) rfl rfl) ?_
      walk_at "my rn"
      refine Rd.ifD (fun z => absurd (V.str.inj z) (by decide +kernel)) fun _ => ?_
      walk_at "my rn"
      intro L H1 nL s1 hL
      exact q _ _ _ s1 (SqL.of hL) .nil
    | read p t =>
      obtain ⟨t, xs, rfl, hx, ha⟩ := dpT dv
      obtain ⟨v0, x0, rfl, d0, ha⟩ := dp1 ha
      have hx := Same.seqT Cut.sub hx
      cases dpS d0
      walk_at "my rn"
      refine Rd.ixTq hx (Rd.at_val (j := 0) rfl rfl) ?_
      walk_at "my rn"
      refine Rd.ifD (fun z => absurd (V.str.inj z) (by decide +kernel)) fun _ => ?_
      walk_at "my rn"
      refine Rd.ixTq hx (Rd.at_val (j := 0) rfl rfl) ?_
      walk_at "my rn"
      refine Rd.ifD (fun z => absurd (V.str.inj z) (by decide +kernel)) fun _ => ?_
      walk_at "my rn"
      intro L H1 nL s1 hL
      exact q _ _ _ s1 (SqL.of hL) .nil
    | write t e =>
      obtain ⟨t, xs, rfl, hx, ha⟩ := dpT dv
      obtain ⟨v0, x0, rfl, d0, ha⟩ := dp1 ha
      have hx := Same.seqT Cut.sub hx
      cases dpS d0
      walk_at "my rn"
      refine Rd.ixTq hx (Rd.at_val (j := 0) rfl rfl) ?_
      walk_at "my rn"
      refine Rd.ifD (fun z => absurd (V.str.inj z) (by decide +kernel)) fun _ => ?_
      walk_at "my rn"
      refine Rd.ixTq hx (Rd.at_val (j := 0) rfl rfl) ?_
      walk_at "my rn"
      refine Rd.ifD (fun z => absurd (V.str.inj z) (by decide +kernel)) fun _ => ?_
      walk_at "my rn"
      intro L H1 nL s1 hL
      exact q _ _ _ s1 (SqL.of hL) .nil
def sp_statements (K : PySem.W.Frag) : Sp := fun vs H Q _ => ∃ (S : Addr → Prop) (v : V) (b : List Stm), vs = [v] ∧ Live S H ∧ Dp K (Cut S H) v (.list (stmsD b)) ∧ nests b ≤ 7 ∧ (flats b).length ≤ 30000 ∧
  ∀ (L : Addr) (ws : List V) (H' : Hp), Same H H' → H L = none → H' L = some (.lst ws) → DpAll K (Cut S H') ws (stmsD (flats b)) → Q (.ref L) H'
theorem ok_statements (T : Top K mg) : FnOk P w K mg base CX0 21 T.a_statements T.d_statements ["body"]  (sp_statements K) := by
  refine T.F_statements.ok sc_statements (fun vs H Q E h => ?_) (fun cdv A outer s H vs Q E hr h => ?_)
  · obtain ⟨_, _, _, rfl, _⟩ := h
    rfl
  · obtain ⟨S, v, b, rfl, lv, dv, ne, sm, q⟩ := h
    refine ⟨_, (pss_cons (ps_set (i := 1) sc_statements.nd rfl (by first | exact Or.inl rfl | exact Or.inr rfl) (pe_lst pa_nil))
  (pss_cons (ps_set (i := 2) sc_statements.nd rfl (by first | exact Or.inl rfl | exact Or.inr rfl) (pe_revL (pe_call (ok__copied T) (hr.mono (by decide)) (by rfl) T.g__copied T.F__copied.kp T.b__copied .nil pass0 (pa_cons (pv 0) pa_nil))))
  (pss_cons (ps_while PassesOwn.never (pt_truth (pv 2) (by intro _; rfl))
  (pss_cons (ps_set (i := 3) sc_statements.nd rfl (by first | exact Or.inl rfl | exact Or.inr rfl) (pe_bm0 PySem.F.plainAttrs_list PySem.F.slot_list_pop PySem.F.type_list_pop mt_pop (pv 2)))
  (pss_cons (ps_expr (pe_bm PySem.F.plainAttrs_list PySem.F.slot_list_append PySem.F.type_list_append mt_append (pv 1) (pa_cons (pv 3) pa_nil)))
  (pss_one (ps_expr (pe_bm PySem.F.plainAttrs_list PySem.F.slot_list_extend PySem.F.type_list_extend mt_extend (pv 2) (pa_cons (pe_revL (pe_call (ok__inside T) (hr.mono (by decide)) (by rfl) T.g__inside T.F__inside.kp T.b__inside .nil pass0 (pa_cons (pv 3) pa_nil))) pa_nil)))))))
  (pss_one (ps_ret (pv 1)))))), ?_⟩
    rw [show ∀ a0 : V, L2.start ["body", "found", "waiting", "statement"] [a0] = [some a0, none, none, none] from fun _ => rfl]
    walk_at "my rn"
    intro F H1 nF s1 hF
    walk_at "my rn"
    refine ⟨fun a => S a ∨ a = F, v, b, rfl, (lv.same s1).or hF, dp_same (Cut.free s1 nF) dv, ne, by omega, fun L ws H2 s2 nL hL al => ?_⟩
    walk_at "my rn"
    intro W H3 nW s3 hW
    walk_at "my rn"
    have eW : ws.reverse = ws.reverse := rfl
    refine ⟨fun m σ H' => ∃ (fs ws' : List V) (fd wd : List Stm) (y3 : Option V), m = (flats wd).length ∧ σ = [some v, some (.ref F), some (.ref W), y3] ∧ Same H H' ∧ H' F = some (.lst fs) ∧ H' W = some (.lst ws'.reverse) ∧
      DpAll K (Cut (fun a => (S a ∨ a = F) ∨ a = W) H') fs (stmsD fd) ∧ DpAll K (Cut (fun a => (S a ∨ a = F) ∨ a = W) H') ws' (stmsD wd) ∧ fd ++ flats wd = flats b, ⟨_, [], ws, [], b, none, rfl, rfl, (s1.trans s2).trans s3, s3 _ _ (s2 _ _ hF), hW, .nil, ?_, rfl⟩, ?_⟩
    · exact dps_same (Cut.free s3 nW) al
    rintro m σ H' ⟨fs, ws', fd, wd, y3, rfl, rfl, s4, hF4, hW4, a1, a2, ee⟩
    have FW : F ≠ W := fun z => by rw [← z, s2 _ _ hF] at nW; cases nW
    have lw : ws'.length = wd.length := by rw [dps_len a2, stmsD_map, List.length_map]
    have lf : fs.length = fd.length := by rw [dps_len a1, stmsD_map, List.length_map]
    have tot := congrArg List.length ee
    rw [List.length_append] at tot
    have lwd := flats_len wd
    have inS : ∀ (a : Addr) (o : HO) (Hx : Hp), ((S a ∨ a = F) ∨ a = W) → Same (Cut (fun a => (S a ∨ a = F) ∨ a = W) Hx) (Cut (fun a => (S a ∨ a = F) ∨ a = W) (upd Hx a o)) := fun a o Hx h => Cut.upd (S := fun a => (S a ∨ a = F) ∨ a = W) h
    walk_at "my rn"
    cases ws' with
    | nil =>
      refine ⟨false, .inl ⟨[], SqL.of hW4, rfl⟩, Rd.ifF ?_⟩
      have e0 : wd = [] := List.eq_nil_of_length_eq_zero lw.symm
      subst e0
      rw [show flats [] = [] from rfl, List.append_nil] at ee
      subst ee
      walk_at "my rn"
      exact q F fs H' s4 nF hF4 (dps_same (Cut.mono fun a m => .inl (.inl m)) a1)
    | cons v1 ws1 =>
      cases wd with
      | nil => cases lw
      | cons s wd1 =>
        rw [List.reverse_cons] at hW4
        obtain ⟨v1', ws1', e1, dv1, a2⟩ := dp1 a2
        cases e1
        refine ⟨true, .inl ⟨_, SqL.of hW4, by simp⟩, Rd.ifT ⟨fun σ' H' => ∃ (fs ws' : List V) (fd wd' : List Stm) (y3 : Option V), (flats wd').length < (flats (s :: wd1)).length ∧ σ' = [some v, some (.ref F), some (.ref W), y3] ∧ Same H H' ∧ H' F = some (.lst fs) ∧ H' W = some (.lst ws'.reverse) ∧
      DpAll K (Cut (fun a => (S a ∨ a = F) ∨ a = W) H') fs (stmsD fd) ∧ DpAll K (Cut (fun a => (S a ∨ a = F) ∨ a = W) H') ws' (stmsD wd') ∧ fd ++ flats wd' = flats b, fun σ' H' ⟨a, b, c, d, e, f, g⟩ => ⟨_, f, a, b, c, d, e, rfl, g⟩, ?_⟩⟩
        walk_at "my rn"
        refine Rd.popI hW4 (last_at' _ _) ?_
        rw [List.dropLast_concat]
        obtain ⟨H5, e5⟩ : ∃ H5, H5 = upd H' W (.lst ws1.reverse) := ⟨_, rfl⟩
        have hW5 : H5 W = some (.lst ws1.reverse) := by rw [e5]; exact upd_same
        have hF5 : H5 F = some (.lst fs) := by rw [e5, upd_ne FW]; exact hF4
        have c5 := inS W (.lst ws1.reverse) H' (.inr rfl)
        have s5 : Same H H5 := fun a x e => by rw [e5, upd_ne (fun z => by rw [z] at e; rw [((s1.trans s2).free nW)] at e; cases e)]; exact s4 a x e
        rw [← e5] at c5 ⊢
        have kl : s.kids.length + wd1.length ≤ (flats (s :: wd1)).length := by
          rw [flats_cons]
          have := flats_len (s.kids ++ wd1)
          rw [List.length_append] at this
          simp only [List.length_cons]
          omega
        walk_at "my rn"
        refine Rd.app hF5 (Rd.szl (by omega)) ?_
        obtain ⟨H6, e6⟩ : ∃ H6, H6 = upd H5 F (.lst (fs ++ [v1])) := ⟨_, rfl⟩
        have hF6 : H6 F = some (.lst (fs ++ [v1])) := by rw [e6]; exact upd_same
        have hW6 : H6 W = some (.lst ws1.reverse) := by rw [e6, upd_ne FW.symm]; exact hW5
        have c6 := inS F (.lst (fs ++ [v1])) H5 (.inl (.inr rfl))
        have s6 : Same H H6 := fun a x e => by rw [e6, upd_ne (fun z => by rw [z, nF] at e; cases e)]; exact s5 a x e
        rw [← e6] at c6 ⊢
        walk_at "my rn"
        refine ⟨fun a => (S a ∨ a = F) ∨ a = W, v1, s, rfl, ((lv.same s6).or hF6).or hW6, dp_same (c5.trans c6) dv1, by omega, fun L7 ks H7 s7 hL7 ak => ?_⟩
        have lk : ks.length = s.kids.length := by rw [dps_len ak, stmsD_map, List.length_map]
        walk_at "my rn"
        intro R H8 nR s8 hR
        have hW8 := s8 _ _ (s7 _ _ hW6)
        have hF8 := s8 _ _ (s7 _ _ hF6)
        walk_at "my rn"
        refine Rd.ext hW8 hR (by rw [List.length_reverse, List.length_reverse]; simp only [List.length_cons] at lw; omega) ?_
        have cW := inS W (.lst (ws1.reverse ++ ks.reverse)) H8 (.inr rfl)
        have s68 := Cut.same (S := fun a => (S a ∨ a = F) ∨ a = W) (s7.trans s8)
        refine ⟨fs ++ [v1], ks ++ ws1, fd ++ [s], s.kids ++ wd1, _, ?_, rfl, fun a x e => ?_, ?_, ?_, ?_, ?_, ?_⟩
        · rw [flats_cons]; simp
        · rw [upd_ne (fun z => by rw [z] at e; rw [((s1.trans s2).free nW)] at e; cases e)]; exact s8 _ _ (s7 _ _ (s6 a x e))
        · rw [upd_ne FW]; exact hF8
        · rw [upd_same, List.reverse_append]
        · rw [stmsD_app]
          exact dps_app (dps_same (((c5.trans c6).trans s68).trans cW) a1) (.cons (dp_same (((c5.trans c6).trans s68).trans cW) dv1) .nil)
        · rw [stmsD_app]
          exact dps_app (dps_same ((Cut.same s8).trans cW) ak) (dps_same (((c5.trans c6).trans s68).trans cW) a2)
        · rw [← ee, flats_cons, List.append_assoc]; rfl
end

end Mine

set_option Elab.async false
set_option linter.all false
set_option maxRecDepth 100000
set_option maxHeartbeats 1000000

--@@rec _law_expr _law_body _law_statement _copied _copied_statement _law_names

--@@guards
namespace Mine
open PySem PySem.Spec PyProof.Rows L2
local macro_rules | `(tactic| walk_at "my rn") => `(tactic| (repeat (first | with_reducible refine Rd.catQI ?_ | with_reducible refine Rd.revN ?_ | with_reducible refine Rd.lzip ?_ | with_reducible refine Rd.fld ?_ | with_reducible refine Rd.sfld ?_ | with_reducible refine Rd.meth ?_ | with_reducible refine Rd.make ?_ | with_reducible refine Rd.izip ?_ | with_reducible refine Rd.tupN ?_ | with_reducible refine Rd.lstN ?_ | with_reducible refine Rd.cbListOf ?_ | with_reducible refine Rd.cbListOfR ?_ | with_reducible refine Rd.catI ?_ | with_reducible refine Rd.slN ?_ | with_reducible refine Rd.cbSrtI ?_ | with_reducible refine Rd.seq ?_ | with_reducible refine Rd.next ?_ | with_reducible refine Rd.brk ?_ | with_reducible refine Rd.cont ?_ | with_reducible refine Rd.asg ?_ | with_reducible refine Rd.ret ?_ | with_reducible refine Rd.retN ?_ | with_reducible refine Rd.drop ?_ | with_reducible refine Rd.ifs ?_ | with_reducible refine Rd.ife ?_ | with_reducible refine Rd.test ?_ | with_reducible refine Rd.tb_ ?_ | with_reducible refine Rd.bl ?_ | with_reducible refine Rd.bl2 ?_ | with_reducible refine Rd.and_ ?_ | with_reducible refine Rd.or_ ?_ | with_reducible refine Rd.not_ ?_ | with_reducible refine Rd.andV ?_ | with_reducible refine Rd.orV ?_ | with_reducible refine Rd.notV ?_ | with_reducible refine Rd.op ?_ | with_reducible refine Rd.un ?_ | with_reducible refine Rd.I0 ?_ | with_reducible refine Rd.U ?_ | with_reducible refine Rd.ip ?_ | with_reducible refine Rd.c_ ?_ | with_reducible refine Rd.nil ?_ | with_reducible refine Rd.cons ?_ | with_reducible refine Rd.call ?_ | with_reducible refine Rd.cb ?_ | with_reducible refine Rd.bm ?_ | with_reducible refine Rd.bm0 ?_ | with_reducible refine Rd.nopart ?_ | with_reducible refine Rd.part ?_ | with_reducible refine Rd.int1 ?_ | with_reducible refine Rd.ints1 ?_ | with_reducible refine Rd.ints2 ?_ | with_reducible refine Rd.gcons ?_ | with_reducible refine Rd.gnil ?_ | with_reducible refine Rd.sub ?_ | with_reducible refine Rd.isN ?_ | with_reducible refine Rd.chain ?_ | with_reducible refine Rd.rf ?_ | with_reducible refine Rd.tyS ?_ | with_reducible refine Rd.intI ?_ | with_reducible refine Rd.lc ?_ | with_reducible refine Rd.for_ ?_ | with_reducible refine Rd.ilist ?_ | with_reducible refine Rd.itup ?_ | with_reducible refine Rd.irng1 ?_ | with_reducible refine Rd.irng2 ?_ | with_reducible refine Rd.ienum ?_ | with_reducible refine Rd.istr ?_ | with_reducible refine Rd.refA ?_ | with_reducible refine Rd.strA ?_ | with_reducible refine Rd.yes ?_ | with_reducible refine Rd.ifT ?_ | with_reducible refine Rd.ifF ?_ | with_reducible refine Rd.ifnT ?_ | with_reducible refine Rd.ifnF ?_ | with_reducible refine Rd.isi_ii ?_ | with_reducible refine Rd.isi_ib ?_ | with_reducible refine Rd.isi_is ?_ | with_reducible refine Rd.isi_il ?_ | with_reducible refine Rd.isi_it ?_ | with_reducible refine Rd.isi_id ?_ | with_reducible refine Rd.isi_bi ?_ | with_reducible refine Rd.isi_bb ?_ | with_reducible refine Rd.isi_bs ?_ | with_reducible refine Rd.isi_bl ?_ | with_reducible refine Rd.isi_bt ?_ | with_reducible refine Rd.isi_bd ?_ | with_reducible refine Rd.isi_si ?_ | with_reducible refine Rd.isi_sb ?_ | with_reducible refine Rd.isi_ss ?_ | with_reducible refine Rd.isi_sl ?_ | with_reducible refine Rd.isi_st ?_ | with_reducible refine Rd.isi_sd ?_ | with_reducible refine Rd.isi_ni ?_ | with_reducible refine Rd.isi_nb ?_ | with_reducible refine Rd.isi_ns ?_ | with_reducible refine Rd.isi_nl ?_ | with_reducible refine Rd.isi_nt ?_ | with_reducible refine Rd.isi_nd ?_ | with_reducible refine Rd.sl ?_ | with_reducible refine Rd.v0 ?_ | with_reducible refine Rd.v1 ?_ | with_reducible refine Rd.v2 ?_ | with_reducible refine Rd.v3 ?_ | with_reducible refine Rd.v4 ?_ | with_reducible refine Rd.v5 ?_ | with_reducible refine Rd.v6 ?_ | with_reducible refine Rd.v7 ?_ | with_reducible refine Rd.v8 ?_ | with_reducible refine Rd.v9 ?_ | with_reducible refine Rd.v10 ?_ | with_reducible refine Rd.v11 ?_ | with_reducible refine Rd.v12 ?_ | with_reducible refine Rd.v13 ?_ | with_reducible refine Rd.v14 ?_ | with_reducible refine Rd.v15 ?_ | with_reducible refine Rd.n0 ?_ | with_reducible refine Rd.n1 ?_ | with_reducible refine Rd.n2 ?_ | with_reducible refine Rd.n3 ?_ | with_reducible refine Rd.n4 ?_ | with_reducible refine Rd.n5 ?_ | with_reducible refine Rd.n6 ?_ | with_reducible refine Rd.n7 ?_ | with_reducible refine Rd.n8 ?_ | with_reducible refine Rd.n9 ?_ | with_reducible refine Rd.n10 ?_ | with_reducible refine Rd.n11 ?_ | with_reducible refine Rd.n12 ?_ | with_reducible refine Rd.n13 ?_ | with_reducible refine Rd.n14 ?_ | with_reducible refine Rd.n15 ?_ | with_reducible refine Rd.g0 ?_ | with_reducible refine Rd.g1 ?_ | with_reducible refine Rd.g2 ?_ | with_reducible refine Rd.g3 ?_ | with_reducible refine Rd.g4 ?_ | with_reducible refine Rd.g5 ?_ | with_reducible refine Rd.g6 ?_ | with_reducible refine Rd.g7 ?_ | with_reducible refine Rd.g8 ?_ | with_reducible refine Rd.g9 ?_ | with_reducible refine Rd.g10 ?_ | with_reducible refine Rd.g11 ?_ | with_reducible refine Rd.g12 ?_ | with_reducible refine Rd.g13 ?_ | with_reducible refine Rd.g14 ?_ | with_reducible refine Rd.g15 ?_ | ((with_reducible apply Rd.glst); (first | assumption | exact upd_same); exact rfl) | ((with_reducible apply Rd.gtP); assumption; assumption) | ((with_reducible apply Rd.revq); first | assumption | exact SqL.of (by assumption)) | ((with_reducible apply Rd.fldI); (first | assumption | exact upd_same); assumption; assumption; (first | assumption | with_unfolding_all rfl)) | ((with_reducible apply Rd.methI); (first | assumption | exact upd_same); (first | assumption | with_unfolding_all rfl)) | ((with_reducible apply Rd.sfldI); (first | assumption | exact upd_same); assumption; assumption; exact Nat.le_of_ble_eq_true rfl) | ((with_reducible apply Rd.maxL); assumption) | ((with_reducible apply Rd.anyL); assumption) | ((with_reducible apply Rd.sumL); assumption) | ((with_reducible refine Rd.izI (by assumption) (by assumption) ?_)) | ((with_reducible refine Rd.eq ?_ ?_); exact rfl) | ((with_reducible refine Rd.ne ?_ ?_); exact rfl) | ((with_reducible refine Rd.szA ?_ ?_); exact Nat.le_of_ble_eq_true rfl) | ((with_reducible refine Rd.I ?_ ?_); first | assumption | decide | exact Or.inr (by decide +kernel) | exact Or.inl (by decide +kernel) | exact ⟨by decide, by decide⟩ | exact ⟨by decide, by decide, by decide⟩ | omega) | ((with_reducible apply Rd.tyL); first | assumption | exact upd_same) | ((with_reducible apply Rd.tyLq); assumption) | ((with_reducible apply Rd.ixL); (first | assumption | exact upd_same); exact rfl) | ((with_reducible apply Rd.ixT); (first | assumption | exact upd_same); exact rfl) | ((with_reducible apply Rd.ixLq); assumption; exact rfl) | ((with_reducible apply Rd.ixTq); assumption; exact rfl) | ((with_reducible apply Rd.gtup); (first | assumption | exact upd_same); exact rfl) | ((with_reducible apply Rd.gtupq); assumption; exact rfl) | ((with_reducible apply Rd.sqAq); assumption) | ((with_reducible apply Rd.stAq); assumption) | ((with_reducible apply Rd.enAq); assumption) | ((with_reducible apply Rd.lenLq); assumption) | ((with_reducible apply Rd.lenTq); assumption) | ((with_reducible apply Rd.sqA); first | assumption | exact upd_same) | ((with_reducible apply Rd.stA); first | assumption | exact upd_same) | ((with_reducible apply Rd.enA); first | assumption | exact upd_same) | ((with_reducible apply Rd.lenL); first | assumption | exact upd_same) | ((with_reducible apply Rd.lenT); first | assumption | exact upd_same) | ((with_reducible refine Rd.nwT ?_ ?_); exact Nat.le_of_ble_eq_true rfl) | ((with_reducible refine Rd.nwL ?_ ?_); exact Nat.le_of_ble_eq_true rfl) | ((with_reducible apply Rd.listOf); assumption) | ((with_reducible apply Rd.listOfq); assumption) | ((with_reducible apply Rd.slo); assumption) | ((with_reducible apply Rd.slq); assumption) | ((with_reducible apply Rd.srtI); assumption) | ((with_reducible apply Rd.srtIo); assumption) | ((with_reducible refine Rd.isi_li (by assumption) ?_)) | ((with_reducible refine Rd.isi_lb (by assumption) ?_)) | ((with_reducible refine Rd.isi_ls (by assumption) ?_)) | ((with_reducible refine Rd.isi_ll (by assumption) ?_)) | ((with_reducible refine Rd.isi_lt (by assumption) ?_)) | ((with_reducible refine Rd.isi_ld (by assumption) ?_)) | ((with_reducible refine Rd.isi_ti (by assumption) ?_)) | ((with_reducible refine Rd.isi_tb (by assumption) ?_)) | ((with_reducible refine Rd.isi_ts (by assumption) ?_)) | ((with_reducible refine Rd.isi_tl (by assumption) ?_)) | ((with_reducible refine Rd.isi_tt (by assumption) ?_)) | ((with_reducible refine Rd.isi_td (by assumption) ?_)))))
/-! ### programs as data; deadbeat.rules: reached, used -/
structure Op where
  name : Str
  pars : PyData
  locs : PyData
  body : List Stm
  res : PyData
def Op.d (o : Op) : PyData := .tuple [.str "operation", .str o.name, o.pars, o.locs, .list (stmsD o.body), o.res]
structure Ob where
  name : Str
  fields : PyData
  ops : List Op
def Ob.d (o : Ob) : PyData := .tuple [.str "object", .str o.name, o.fields, .list (o.ops.map Op.d)]
structure Task where
  name : Str
  every : PyData
  within : Int
  locs : PyData
  body : List Stm
def Task.d (t : Task) : PyData := .tuple [.str "task", .str t.name, t.every, .int t.within, t.locs, .list (stmsD t.body)]
structure Intr where
  name : Str
  every : PyData
  within : PyData
  obj : Str
  op : PyData
  args : PyData
def Intr.d (t : Intr) : PyData := .tuple [.str "interrupt", .str t.name, t.every, t.within, .str t.obj, t.op, t.args]
structure Pg where
  kind : PyData
  name : PyData
  ports : PyData
  obs : List Ob
  tasks : List Task
  irs : List Intr
def Pg.d (p : Pg) : PyData := .tuple [p.kind, p.name, p.ports, .list (p.obs.map Ob.d), .list (p.tasks.map Task.d), .list (p.irs.map Intr.d)]
def Pg.names (p : Pg) : List Str := p.obs.map Ob.name
def callN : Stm → Option Str
  | .call _ o _ _ => some o
  | _ => none
def callsN (b : List Stm) : List Str := (flats b).filterMap callN
def Ob.calls (o : Ob) : List Str := o.ops.flatMap fun x => callsN x.body
/-- what the calls of an object go to, by the objects' indexes -/
def Pg.E (p : Pg) (k : Nat) : List Nat := (p.obs[k]?.elim [] Ob.calls).map fun nm => (findN p.names nm).toNat
inductive Reach (E : Nat → List Nat) : Nat → Nat → Prop
  | refl (k : Nat) : Reach E k k
  | step {k t j : Nat} : t ∈ E k → Reach E t j → Reach E k j
/-- a row of indexes: ascending, just what is reached -/
def IsRow (E : Nat → List Nat) (k : Nat) (r : List Int) : Prop := r.Pairwise (· < ·) ∧ ∀ x : Int, x ∈ r ↔ ∃ j : Nat, x = j ∧ Reach E k j
structure BodyP (p : Pg) (b : List Stm) : Prop where
  nest : nests b ≤ 7
  size : (flats b).length ≤ 30000
  calls : ∀ nm ∈ callsN b, nm ∈ p.names
structure PgW (p : Pg) : Prop where
  few : p.obs.length ≤ 60 ∧ p.tasks.length ≤ 60 ∧ p.irs.length ≤ 60
  ops : ∀ o ∈ p.obs, o.ops.length ≤ 1000 ∧ ∀ x ∈ o.ops, BodyP p x.body
  later : ∀ k j, j ∈ p.E k → k < j ∧ j < p.obs.length
  near : ∀ k, (p.E k).length ≤ 60
  body : ∀ t ∈ p.tasks, BodyP p t.body ∧ (callsN t.body).length ≤ 60
  irs : ∀ t ∈ p.irs, t.obj ∈ p.names
theorem findN_mem {ns : List Str} {x : Str} (h : x ∈ ns) : (findN ns x).toNat < ns.length ∧ findN ns x = ((findN ns x).toNat : Nat) := by
  unfold findN
  rw [if_pos h]
  exact ⟨by rw [Int.toNat_natCast]; exact List.idxOf_lt_length_iff.mpr h, by rw [Int.toNat_natCast]⟩
/-- the rows that calls go to, one behind the other -/
def outI (ns : List Str) (rows : List (List Int)) (xs : List Str) : List Int := xs.flatMap fun nm => rows.getD (findN ns nm).toNat []
theorem outI_len {ns : List Str} {rows : List (List Int)} {n : Nat} (h : ∀ r ∈ rows, r.length ≤ n) : ∀ xs : List Str, (outI ns rows xs).length ≤ xs.length * n
  | [] => by simp [outI]
  | x :: r => by
    have ih := outI_len (ns := ns) h r
    have e : outI ns rows (x :: r) = rows.getD (findN ns x).toNat [] ++ outI ns rows r := rfl
    rw [e, List.length_append, List.length_cons, Nat.succ_mul]
    have : (rows.getD (findN ns x).toNat []).length ≤ n := by
      rw [List.getD_eq_getElem?_getD]
      cases z : rows[(findN ns x).toNat]? with
      | none => exact Nat.zero_le _
      | some y => exact h y (List.mem_of_getElem? z)
    omega
theorem outI_app (ns : List Str) (rows : List (List Int)) (xs ys : List Str) : outI ns rows (xs ++ ys) = outI ns rows xs ++ outI ns rows ys := List.flatMap_append
/-- a list of lists of ints, all new since H0 -/
structure FoundAt (H0 H : Hp) (F : Addr) (ls : List Addr) (rows : List (List Int)) : Prop where
  at_ : H F = some (.lst (ls.map V.ref))
  len : ls.length = rows.length
  row : ∀ (i : Nat) a r, ls[i]? = some a → rows[i]? = some r → H a = some (.lst (r.map V.int))
  nd : ls.Nodup
  new : ∀ a ∈ ls, H0 a = none ∧ a ≠ F
  newF : H0 F = none
theorem FoundAt.same {H0 H H' : Hp} {F : Addr} {ls : List Addr} {rows : List (List Int)} (f : FoundAt H0 H F ls rows) (s : Same H H') : FoundAt H0 H' F ls rows :=
  { f with at_ := s _ _ f.at_, row := fun i a r h1 h2 => s _ _ (f.row i a r h1 h2) }
theorem FoundAt.get {H0 H : Hp} {F : Addr} {ls : List Addr} {rows : List (List Int)} (f : FoundAt H0 H F ls rows) {k : Nat} (h : k < rows.length) : ∃ a r, ls[k]? = some a ∧ rows[k]? = some r ∧ H a = some (.lst (r.map V.int)) := by
  have hk : k < ls.length := by rw [f.len]; exact h
  have h1 : ls[k]? = some ls[k] := List.getElem?_eq_getElem hk
  have h2 : rows[k]? = some rows[k] := List.getElem?_eq_getElem h
  exact ⟨_, _, h1, h2, f.row k _ _ h1 h2⟩
theorem FoundAt.live {H0 H : Hp} {F : Addr} {ls : List Addr} {rows : List (List Int)} (f : FoundAt H0 H F ls rows) {a : Addr} (m : a ∈ ls) : ∃ x, H a = some x := by
  obtain ⟨k, hk⟩ := List.getElem?_of_mem m
  have hl := (List.getElem?_eq_some_iff.mp hk).1
  obtain ⟨a', r, h1, h2, h3⟩ := f.get (k := k) (by rw [← f.len]; exact hl)
  rw [hk] at h1; cases h1
  exact ⟨_, h3⟩
theorem FoundAt.set {H0 H H1 : Hp} {F L : Addr} {ls : List Addr} {rows : List (List Int)} {r : List Int} {k : Nat} (f : FoundAt H0 H F ls rows) (s0 : Same H0 H) (s : Same H H1) (nL : H L = none) (hL : H1 L = some (.lst (r.map V.int))) (hk : k < rows.length) :
    FoundAt H0 (upd H1 F (.lst ((ls.set k L).map V.ref))) F (ls.set k L) (rows.set k r) := by
  have nm : L ∉ ls := fun m => by obtain ⟨x, e⟩ := f.live m; rw [nL] at e; cases e
  have nF : L ≠ F := fun z => by have := f.at_; rw [← z, nL] at this; cases this
  exact {
    at_ := upd_same
    len := by rw [List.length_set, List.length_set]; exact f.len
    row := fun i a r' h1 h2 => by
      rw [List.getElem?_set] at h1 h2
      have hk2 : k < ls.length := by rw [f.len]; exact hk
      by_cases e : k = i
      · rw [if_pos e, if_pos hk2] at h1
        rw [if_pos e, if_pos hk] at h2
        cases h1; cases h2
        rw [upd_ne nF]; exact hL
      · rw [if_neg e] at h1 h2
        rw [upd_ne (f.new a (List.mem_of_getElem? h1)).2]
        exact s _ _ (f.row i a r' h1 h2)
    nd := by
      rw [List.nodup_iff_pairwise_ne] at *
      refine List.pairwise_iff_getElem.mpr fun i j hi hj hij => ?_
      rw [List.length_set] at hi hj
      have base := List.pairwise_iff_getElem.mp (List.nodup_iff_pairwise_ne.mp f.nd) i j hi hj hij
      rw [List.getElem_set, List.getElem_set]
      by_cases e1 : k = i
      · rw [if_pos e1, if_neg (by omega)]
        exact fun z => nm (z ▸ List.getElem_mem hj)
      · rw [if_neg e1]
        by_cases e2 : k = j
        · rw [if_pos e2]
          exact fun z => nm (z ▸ List.getElem_mem hi)
        · rw [if_neg e2]; exact base
    new := fun a m => by
      rcases List.mem_or_eq_of_mem_set m with m | rfl
      · exact f.new a m
      · exact ⟨s0.free nL, nF⟩
    newF := f.newF }
/-- the objects of a program, read -/
theorem named_of {K : PySem.W.Frag} {H : Hp} : ∀ {os : List Ob} {xs : List V}, DpAll K H xs (os.map Ob.d) → NamedR K H xs (os.map Ob.name) := by
  intro os xs ha
  have lx : xs.length = os.length := by rw [dps_len ha, List.length_map]
  refine ⟨by rw [List.length_map, lx], fun i v hv => ?_⟩
  obtain ⟨d, hd, dd⟩ := dp_at' ha hv
  rw [List.getElem?_map] at hd
  cases e : os[i]? with
  | none => rw [e] at hd; cases hd
  | some o =>
    rw [e] at hd; cases hd
    obtain ⟨t, fs, rfl, hf, af⟩ := dpT dd
    obtain ⟨v0, fs, rfl, d0, af⟩ := dp1 af
    obtain ⟨v1, fs, rfl, d1, af⟩ := dp1 af
    exact ⟨t, _, o.name, rfl, hf, by rw [dpS d1]; rfl, by rw [List.getElem?_map, e]; rfl⟩
structure PgAt (K : PySem.W.Frag) (H : Hp) (t O T I : Addr) (os ts is : List V) (p : Pg) : Prop where
  ex : ∃ v0 v1 v2, SqT K H t [v0, v1, v2, .ref O, .ref T, .ref I]
  hO : SqL K H O os
  aO : DpAll K H os (p.obs.map Ob.d)
  hT : SqL K H T ts
  aT : DpAll K H ts (p.tasks.map Task.d)
  hI : SqL K H I is
  aI : DpAll K H is (p.irs.map Intr.d)
theorem pg_at {K : PySem.W.Frag} {H : Hp} {v : V} {p : Pg} (h : Dp K H v p.d) : ∃ t O T I os ts is, v = .ref t ∧ PgAt K H t O T I os ts is p := by
  obtain ⟨t, xs, rfl, hx, ha⟩ := dpT h
  obtain ⟨v0, x0, rfl, d0, ha⟩ := dp1 ha
  obtain ⟨v1, x0, rfl, d1, ha⟩ := dp1 ha
  obtain ⟨v2, x0, rfl, d2, ha⟩ := dp1 ha
  obtain ⟨v3, x0, rfl, d3, ha⟩ := dp1 ha
  obtain ⟨v4, x0, rfl, d4, ha⟩ := dp1 ha
  obtain ⟨v5, x0, rfl, d5, ha⟩ := dp1 ha
  cases dp0 ha
  obtain ⟨O, os, rfl, h3, a3⟩ := dpL d3
  obtain ⟨T, ts, rfl, h4, a4⟩ := dpL d4
  obtain ⟨I, is, rfl, h5, a5⟩ := dpL d5
  exact ⟨t, O, T, I, os, ts, is, rfl, ⟨v0, v1, v2, hx⟩, h3, a3, h4, a4, h5, a5⟩
theorem PgAt.same {K : PySem.W.Frag} {H H' : Hp} {t O T I : Addr} {os ts is : List V} {p : Pg} (h : PgAt K H t O T I os ts is p) (s : Same H H') : PgAt K H' t O T I os ts is p := by
  obtain ⟨⟨v0, v1, v2, e⟩, h1, h2, h3, h4, h5, h6⟩ := h
  exact ⟨⟨v0, v1, v2, s.seqT e⟩, s.seq h1, dps_same s h2, s.seq h3, dps_same s h4, s.seq h5, dps_same s h6⟩
theorem PgAt.lenO {K : PySem.W.Frag} {H : Hp} {t O T I : Addr} {os ts is : List V} {p : Pg} (h : PgAt K H t O T I os ts is p) : os.length = p.obs.length := by rw [dps_len h.aO, List.length_map]
def Stm.kind : Stm → Str
  | .set _ _ => "set"
  | .ifs _ _ _ => "if"
  | .loop _ _ _ _ => "loop"
  | .call _ _ _ _ => "call"
  | .read _ _ => "read"
  | .write _ _ => "write"
theorem d_kind (s : Stm) : ∃ a r, s.d = .tuple (.str s.kind :: a :: r) := by
  cases s <;> exact ⟨_, _, rfl⟩
theorem kind_call {s : Stm} (h : s.kind = ("call" : Str)) : ∃ p o op as, s = .call p o op as := by
  cases s with
  | call p o op as => exact ⟨p, o, op, as, rfl⟩
  | _ => exact absurd h (by simp only [Stm.kind]; decide +kernel)
theorem kind_other {s : Stm} (h : s.kind ≠ ("call" : Str)) : callN s = none := by
  cases s with
  | call p o op as => exact absurd rfl h
  | _ => rfl
section
variable {P : Program} {w : World} {K : PySem.W.Frag} {mg : Str → Option Value} {base : Heap}
def sp__reached_by (K : PySem.W.Frag) : Sp := fun vs H Q _ => ∃ (t O T I : Addr) (os ts is : List V) (p : Pg) (v : V) (b : List Stm) (H0 : Hp) (F : Addr) (ls : List Addr) (rows : List (List Int)), vs = [.ref t, v, .ref F] ∧ PgAt K H t O T I os ts is p ∧ p.obs.length ≤ 60 ∧ Dp K H v (.list (stmsD b)) ∧ BodyP p b ∧
  FoundAt H0 H F ls rows ∧ rows.length = p.obs.length ∧ (∀ r ∈ rows, r.length ≤ p.obs.length) ∧ (callsN b).length ≤ 100 ∧
  ∀ (L : Addr) (H' : Hp), Same H H' → H L = none → H' L = some (.lst ((outI p.names rows (callsN b)).map V.int)) → Q (.ref L) H'
theorem ok__reached_by (T : Top K mg) : FnOk P w K mg base CX0 22 T.a__reached_by T.d__reached_by ["program", "body", "found"]  (sp__reached_by K) := by
  refine T.F__reached_by.ok sc__reached_by (fun vs H Q E h => ?_) (fun cdv A outer s H vs Q E hr h => ?_)
  · obtain ⟨_, _, _, _, _, _, _, _, _, _, _, _, _, _, rfl, _⟩ := h
    rfl
  · obtain ⟨t, O, Ta, I, os, ts, is, p, v, b, H0, F, ls, rows, rfl, pa, few, dv, bp, fa, lr, sr, fc, q⟩ := h
    refine ⟨_, (pss_cons (ps_set (i := 3) sc__reached_by.nd rfl (by first | exact Or.inl rfl | exact Or.inr rfl) (pe_lst pa_nil))
  (pss_cons (ps_for PassesOwn.never rfl (pi_list (pe_call (ok_statements T) (hr.mono (by decide)) (by rfl) T.g_statements T.F_statements.kp T.b_statements .nil pass0 (pa_cons (pv 1) pa_nil))) (pg_name (i := 4) sc__reached_by.nd rfl (by first | exact Or.inl rfl | exact Or.inr rfl))
  (pss_one (ps_if (pt_cmpR op_eq (pe_ix ix_tup (pv 4) pe_int (fun _ _ => rfl)) pe_str (nomark _))
  (pss_one (ps_expr (pe_bm PySem.F.plainAttrs_list PySem.F.slot_list_extend PySem.F.type_list_extend mt_extend (pv 3) (pa_cons (pe_ix ix_list (pv 2) (pe_call (ok_find T) (hr.mono (by decide)) (by rfl) T.g_find T.F_find.kp T.b_find .nil pass0 (pa_cons (pe_ix ix_tup (pv 0) pe_int (fun _ _ => rfl)) (pa_cons (pe_ix ix_tup (pv 4) pe_int (fun _ _ => rfl)) pa_nil))) (fun _ _ => rfl)) pa_nil))))
  pss_nil)))
  (pss_one (ps_ret (pv 3))))), ?_⟩
    have bnd : ∀ i, (outI p.names rows (((flats b).take i).filterMap callN)).length ≤ 6000 := fun i => by
      have h1 := outI_len (ns := p.names) sr (((flats b).take i).filterMap callN)
      have h2 : (((flats b).take i).filterMap callN).length ≤ (callsN b).length := by
        unfold callsN
        exact ((List.take_sublist i (flats b)).filterMap callN).length_le
      have := Nat.mul_le_mul h2 (Nat.le_refl p.obs.length)
      have := Nat.mul_le_mul fc few
      omega
    rw [show ∀ a0 a1 a2 : V, L2.start ["program", "body", "found", "indexes", "statement"] [a0, a1, a2] = [some a0, some a1, some a2, none, none] from fun _ _ _ => rfl]
    walk_at "my rn"
    intro L H1 nL s1 hL
    walk_at "my rn"
    refine ⟨fun a => a = L, v, b, rfl, fun a m => by rw [m]; exact ⟨_, hL⟩, dp_same (fun a x e => Cut.at (fun z => by rw [z, nL] at e; cases e) (s1 a x e)) dv, bp.nest, bp.size, fun L2 ws H2 s2 nL2 hL2 al => ?_⟩
    have lw : ws.length = (flats b).length := by rw [dps_len al, stmsD_map, List.length_map]
    have ne2 : L2 ≠ L := fun z => by rw [z, hL] at nL2; cases nL2
    walk_at "my rn"
    refine for_it (walk_list (xs := ws)) (fun i σ H' => ∃ y4, σ = [some (.ref t), some v, some (.ref F), some (.ref L), y4] ∧ Rd.But L H2 H' ∧ H' L = some (.lst ((outI p.names rows (((flats b).take i).filterMap callN)).map V.int))) ⟨none, rfl, Rd.But.refl, s2 _ _ hL⟩ (fun i σ H' _ ⟨_, _, b, _⟩ => SqL.of (b _ _ ne2 hL2)) ?_ ?_
    · rintro i x σ H3' H3 hi ⟨y4, rfl, bt, hL3⟩ ⟨rfl, hx⟩
      obtain ⟨d, hd, dd⟩ := dp_at' al hx
      obtain ⟨s, hs, rfl⟩ : ∃ s, (flats b)[i]? = some s ∧ s.d = d := by
        rw [stmsD_map, List.getElem?_map] at hd
        cases z : (flats b)[i]? with
        | none => rw [z] at hd; cases hd
        | some s => rw [z] at hd; exact ⟨s, rfl, Option.some.inj hd⟩
      have tk : ((flats b).take (i + 1)).filterMap callN = ((flats b).take i).filterMap callN ++ [s].filterMap callN := by
        rw [List.take_add_one, hs, List.filterMap_append]; rfl
      have kp : Same (Cut (fun a => a = L) H2) H3 := fun a x e => by
        obtain ⟨n, e⟩ := Cut.get e
        exact bt a x n e
      have s23 : Same H H3 := fun a x e => bt a x (fun z => by rw [z, nL] at e; cases e) (s2 _ _ (s1 _ _ e))
      obtain ⟨a0, r0, ed⟩ := d_kind s
      rw [ed] at dd
      obtain ⟨tt, xs, rfl, hxs, axs⟩ := dpT dd
      have hxs := kp.seqT hxs
      obtain ⟨v0, x0, rfl, d0, ax1⟩ := dp1 axs
      cases dpS d0
      walk_at "my rn"
      refine Rd.ixTq hxs (Rd.at_val (j := 0) rfl rfl) ?_
      walk_at "my rn"
      refine Rd.ifD (fun e => ?_) (fun e => ?_)
      · obtain ⟨pp, o, op, as, rfl⟩ := kind_call (V.str.inj e)
        cases ed
        obtain ⟨v1, x1, rfl, d1, ax2⟩ := dp1 ax1
        obtain ⟨v2, x2, rfl, d2, ax3⟩ := dp1 ax2
        cases dpS d2
        obtain ⟨w0, w1, w2, ht⟩ := (pa.same s23).ex
        have hO := (pa.same s23).hO
        have mo : o ∈ p.names := bp.calls o (List.mem_filterMap.mpr ⟨_, List.mem_of_getElem? hs, rfl⟩)
        obtain ⟨m1, m2⟩ := findN_mem mo
        have m3 : (findN p.names o).toNat < rows.length := by rw [lr]; unfold Pg.names at m1; rwa [List.length_map] at m1
        walk_at "my rn"
        refine Rd.ixTq hxs (Rd.at_val (j := 2) rfl rfl) ?_
        walk_at "my rn"
        refine ⟨O, os, p.names, o, rfl, hO, named_of (pa.same s23).aO, by rw [pa.lenO]; omega, fun H4 s4 => ?_⟩
        obtain ⟨a, r, g1, g2, g3⟩ := ((fa.same s23).same s4).get m3
        have hF3 := ((fa.same s23).same s4).at_
        refine Rd.ixL hF3 (Rd.at_val (j := (findN p.names o).toNat) m2 (by rw [List.getElem?_map, g1]; rfl)) ?_
        have hL4 := s4 _ _ hL3
        have lr2 := sr r (List.mem_of_getElem? g2)
        have ex : outI p.names rows [o] = r := by
          show rows.getD (findN p.names o).toNat [] ++ [] = r
          rw [List.append_nil, List.getD_eq_getElem?_getD, g2]; rfl
        have b1 := bnd i
        walk_at "my rn"
        refine Rd.ext hL4 g3 (by rw [List.length_map, List.length_map]; omega) ?_
        refine ⟨_, rfl, (bt.trans (Rd.But.same s4)).trans Rd.But.at_, ?_⟩
        rw [upd_same, tk, outI_app, show [Stm.call pp o op as].filterMap callN = [o] from rfl, ex, List.map_append]
      · have cn := kind_other (fun z => e (by rw [z]))
        walk_at "my rn"
        refine ⟨_, rfl, bt, ?_⟩
        rw [tk, List.filterMap_cons_none cn]
        simpa using hL3
    · rintro σ H3 ⟨y4, rfl, bt, hL3⟩
      rw [lw, List.take_length] at hL3
      walk_at "my rn"
      exact q L H3 (fun a x e => bt a x (fun z => by rw [z, nL] at e; cases e) (s2 _ _ (s1 _ _ e))) nL hL3
theorem nodup_len : ∀ (n : Nat) (ks : List Int), ks.Nodup → (∀ k ∈ ks, 0 ≤ k ∧ k < n) → ks.length ≤ n
  | 0, ks, _, h => by
    cases ks with
    | nil => simp
    | cons a r => have := h a List.mem_cons_self; omega
  | n + 1, ks, nd, h => by
    have h1 := nodup_len n (ks.erase (n : Int)) (nd.erase _) fun k m => by
      obtain ⟨g1, g2⟩ := (nd.mem_erase_iff).mp m
      have := h k g2
      omega
    rw [List.length_erase] at h1
    split at h1
    · omega
    · omega
theorem rd_set {a : Addr} {ns : List Int} {H : Hp} {Q : VK} (n : Nat) (h : SqL K H a (ns.map V.int)) (b : ns.length ≤ 4000) (rg : ∀ k ∈ ns, 0 ≤ k ∧ k < (n : Int)) (q : ∀ (p : Addr) (c : Nat) H', c ≤ n → H p = none → Same H H' → H' p = some (SetO w p (fun j => decide (j ∈ ns)) c) → Q (.ref p) H') : rSetI K w [.ref a] H Q :=
  ⟨a, ns, rfl, h, by unfold scanBound; omega, fun p c _ ⟨ks, nd, mk, lk⟩ np => q p c _ (by rw [← lk]; exact nodup_len n ks nd fun k m => rg k (mk k m)) np (same_new np) upd_same⟩
theorem rd_sorted {a : Addr} {S : Int → Bool} {n : Nat} {H : Hp} {Q : VK} (h : H a = some (SetO w a S n)) (b : n < 64) (q : ∀ (ns : List Int) (p : Addr) H', ns.Pairwise (· < ·) → (∀ k : Int, k ∈ ns ↔ S k = true) → ns.length = n → H p = none → Same H H' → H' p = some (.lst (ns.map V.int)) → Q (.ref p) H') : rSortedSet w [.ref a] H Q :=
  ⟨a, S, n, rfl, h, b, fun ns p h1 h2 h3 np => q ns p _ h1 h2 h3 np (same_new np) upd_same⟩
theorem strict_len : ∀ (l : List Int) (a n : Int), l.Pairwise (· < ·) → (∀ x ∈ l, a ≤ x ∧ x < n) → a ≤ n → (l.length : Int) ≤ n - a
  | [], a, n, _, _, h => by simp; omega
  | x :: r, a, n, p, h, hn => by
    rw [List.pairwise_cons] at p
    have h1 := h x List.mem_cons_self
    have := strict_len r (x + 1) n p.2 (fun y m => ⟨by have := p.1 y m; omega, (h y (List.mem_cons_of_mem _ m)).2⟩) (by omega)
    rw [List.length_cons]
    omega
theorem reach_lt {p : Pg} (pw : PgW p) {k j : Nat} (h : Reach p.E k j) : k < p.obs.length → j < p.obs.length := by
  induction h with
  | refl k => exact id
  | step m _ ih => exact fun _ => ih (pw.later _ _ m).2
theorem row_new {p : Pg} (pw : PgW p) {k : Nat} {ob : Ob} {rows : List (List Int)} {r : List Int} (hob : p.obs[k]? = some ob) (lr : rows.length = p.obs.length) (ir : ∀ j r, rows[j]? = some r → k < j → IsRow p.E j r) (hp : r.Pairwise (· < ·))
    (hm : ∀ x : Int, x ∈ r ↔ x ∈ (k : Int) :: outI p.names rows ob.calls) : IsRow p.E k r := by
  refine ⟨hp, fun x => ?_⟩
  have eE : p.E k = ob.calls.map fun nm => (findN p.names nm).toNat := by unfold Pg.E; rw [hob]; rfl
  rw [hm, List.mem_cons]
  constructor
  · rintro (h | h)
    · exact ⟨k, h, .refl k⟩
    · unfold outI at h
      obtain ⟨nm, m1, m2⟩ := List.mem_flatMap.mp h
      have mj : (findN p.names nm).toNat ∈ p.E k := by rw [eE]; exact List.mem_map.mpr ⟨nm, m1, rfl⟩
      obtain ⟨g1, g2⟩ := pw.later _ _ mj
      have e : rows[(findN p.names nm).toNat]? = some rows[(findN p.names nm).toNat] := List.getElem?_eq_getElem (by rw [lr]; exact g2)
      rw [List.getD_eq_getElem?_getD, e] at m2
      obtain ⟨j, e1, e2⟩ := ((ir _ _ e g1).2 x).mp m2
      exact ⟨j, e1, .step mj e2⟩
  · rintro ⟨j, e1, e2⟩
    cases e2 with
    | refl => exact .inl e1
    | step m h =>
      rename_i t
      have m0 := m
      rw [eE] at m
      obtain ⟨nm, m1, m2⟩ := List.mem_map.mp m
      obtain ⟨g1, g2⟩ := pw.later _ _ m0
      have e : rows[t]? = some rows[t] := List.getElem?_eq_getElem (by rw [lr]; exact g2)
      refine .inr (List.mem_flatMap.mpr ⟨nm, m1, ?_⟩)
      show x ∈ rows.getD (findN p.names nm).toNat []
      rw [m2, List.getD_eq_getElem?_getD, e]
      exact ((ir _ _ e g1).2 x).mpr ⟨j, e1, h⟩
def sp_reached (K : PySem.W.Frag) : Sp := fun vs H Q _ => ∃ (t O T I : Addr) (os ts is : List V) (p : Pg), vs = [.ref t] ∧ PgAt K H t O T I os ts is p ∧ PgW p ∧
  ∀ (F : Addr) (ls : List Addr) (rows : List (List Int)) (H' : Hp), Same H H' → FoundAt H H' F ls rows → rows.length = p.obs.length → (∀ k r, rows[k]? = some r → IsRow p.E k r) → Q (.ref F) H'
theorem ok_reached (T : Top K mg) : FnOk P w K mg base CX0 23 T.a_reached T.d_reached ["program"]  (sp_reached K) := by
  refine T.F_reached.ok sc_reached (fun vs H Q E h => ?_) (fun cdv A outer s H vs Q E hr h => ?_)
  · obtain ⟨_, _, _, _, _, _, _, _, rfl, _⟩ := h
    rfl
  · obtain ⟨t, O, Ta, I, os, ts, is, p, rfl, pa, pw, q⟩ := h
    refine ⟨_, (pss_cons (ps_set (i := 1) sc_reached.nd rfl (by first | exact Or.inl rfl | exact Or.inr rfl) (pe_ix ix_tup (pv 0) pe_int (fun _ _ => rfl)))
  (pss_cons (ps_setLc (i := 2) (own := [("_", 3)]) (g := gName 3) (tt := tYes) rfl sc_reached.nd rfl rfl (sw_true rfl rfl rfl (by decide +kernel)) (pi_list (pv 1)) (blkOk_by (N := ["program", "objects", "found", "_", "at", "near", "operation"]) (sc := defScope s_reached) (by decide +kernel)) (fun _ _ _ _ _ => pg_name (i := 3) sc_reached.nd rfl (Or.inl rfl)) (fun _ _ _ _ _ => pts_nil) (fun _ _ _ _ _ => (pe_lst pa_nil)))
  (pss_cons (ps_for PassesOwn.never rfl (pi_revR (by rfl) T.m_reversed (prg_1 (by rfl) T.m_range (pe_callB call_len_seq (by rfl) T.m_len PySem.boot_len (pa_cons (pv 1) pa_nil)) rfl)) (pg_name (i := 4) sc_reached.nd rfl (by first | exact Or.inl rfl | exact Or.inr rfl))
  (pss_cons (ps_set (i := 5) sc_reached.nd rfl (by first | exact Or.inl rfl | exact Or.inr rfl) (pe_lst (pa_cons (pv 4) pa_nil)))
  (pss_cons (ps_for PassesOwn.never rfl (pi_list (pe_ix ix_tup (pe_ix ix_list (pv 1) (pv 4) (fun _ _ => rfl)) pe_int (fun _ _ => rfl))) (pg_name (i := 6) sc_reached.nd rfl (by first | exact Or.inl rfl | exact Or.inr rfl))
  (pss_one (ps_expr (pe_bm PySem.F.plainAttrs_list PySem.F.slot_list_extend PySem.F.type_list_extend mt_extend (pv 5) (pa_cons (pe_call (ok__reached_by T) (hr.mono (by decide)) (by rfl) T.g__reached_by T.F__reached_by.kp T.b__reached_by .nil pass0 (pa_cons (pv 0) (pa_cons (pe_ix ix_tup (pv 6) pe_int (fun _ _ => rfl)) (pa_cons (pv 2) pa_nil)))) pa_nil)))))
  (pss_one (ps_asg (pe_callB (cr_sortedSet rfl) (by rfl) T.m_sorted (by decide +kernel) (pa_cons (pe_callTy (cr_setI rfl) (by rfl) T.m_set (by decide +kernel) (pa_cons (pv 5) pa_nil)) pa_nil)) (pg_sub (pv 2) (pv 4) set_list))))))
  (pss_one (ps_ret (pv 2)))))), ?_⟩
    obtain ⟨w0, w1, w2, ht⟩ := pa.ex
    have hO := pa.hO
    have lO := pa.lenO
    obtain ⟨f1, f2, f3⟩ := pw.few
    rw [show ∀ a0 : V, L2.start ["program", "objects", "found", "_", "at", "near", "operation"] [a0] = [some a0, none, none, none, none, none, none] from fun _ => rfl]
    walk_at "my rn"
    intro D nD
    refine lc_it (walk_list (xs := os)) (fun i H' => ∃ ls : List Addr, H' D = some (.lst (ls.map V.ref)) ∧ ls.length = i ∧ ls.Nodup ∧ (∀ a ∈ ls, H a = none ∧ a ≠ D ∧ H' a = some (.lst [])) ∧ Rd.But D H H')
      ⟨[], upd_same, rfl, .nil, by simp, Rd.But.at_⟩ (fun i H' _ ⟨_, _, _, _, _, b⟩ => (b.to nD).seq hO) (fun i x H1' H1 hi ⟨ls, hD, ll, nd, new, bt⟩ ⟨e1, hx⟩ => ?_) (fun H1 ⟨ls, hD, ll, nd, new, bt⟩ => ?_)
    · cases e1
      simp only [List.map_cons, List.map_nil, L2.wipe, List.set_cons_succ, List.set_cons_zero]
      walk_at "my rn"
      refine ⟨rfl, ?_⟩
      walk_at "my rn"
      intro L H2 nL s2 hL
      have hD2 := s2 _ _ hD
      refine ⟨_, hD2, Rd.szl (by rw [List.length_map]; omega), ls ++ [L], by rw [upd_same, List.map_append]; rfl, by simp [ll], ?_, ?_, (bt.trans (Rd.But.same s2)).trans Rd.But.at_⟩
      · refine List.nodup_append.mpr ⟨nd, by simp, fun a m b m2 z => ?_⟩
        rw [List.mem_singleton] at m2
        have := (new a m).2.2
        rw [z, m2, nL] at this; cases this
      · intro a m
        rcases List.mem_append.mp m with m | m
        · obtain ⟨n1, n2, n3⟩ := new a m
          exact ⟨n1, n2, by rw [upd_ne n2]; exact s2 _ _ n3⟩
        · rw [List.mem_singleton] at m
          subst m
          have nLD : a ≠ D := fun z => by rw [z, hD] at nL; cases nL
          exact ⟨bt.to nD |>.free nL, nLD, by rw [upd_ne nLD]; exact hL⟩
    · have s1 := bt.to nD
      have fa0 : FoundAt H H1 D ls (List.replicate p.obs.length []) := ⟨hD, by rw [ll, lO, List.length_replicate], (fun i a r h1 h2 => by
        rw [List.getElem?_replicate] at h2
        split at h2
        · cases h2; exact (new a (List.mem_of_getElem? h1)).2.2
        · cases h2), nd, fun a m => ⟨(new a m).1, (new a m).2.1⟩, nD⟩
      walk_at "my rn"
      refine Rd.revR1 (Rd.cb (Rd.cons (Rd.v1 (Rd.nil (Rd.lenLq (s1.seq hO) ⟨_, rfl, by decide, by decide, by omega, by omega, ?_⟩)))))
      rw [show ((os.length : Int) - 0).toNat = p.obs.length from by omega]
      refine for_it walk_rangeC (fun i σ H' => ∃ (ls : List Addr) (rows : List (List Int)) (y3 y4 y5 y6 : Option V), σ = [some (.ref t), some (.ref O), some (.ref D), y3, y4, y5, y6] ∧ Same H H' ∧ FoundAt H H' D ls rows ∧ rows.length = p.obs.length ∧ (∀ r ∈ rows, r.length ≤ p.obs.length) ∧
        ∀ k r, rows[k]? = some r → p.obs.length ≤ k + i → IsRow p.E k r) ⟨ls, _, none, none, none, none, rfl, s1, fa0, List.length_replicate, ?_, ?_⟩ (fun _ _ _ _ _ => trivial) ?_ ?_
      · intro r m; rw [(List.mem_replicate.mp m).2]; exact Nat.zero_le _
      · intro k r h hk
        have := (List.getElem?_eq_some_iff.mp h).1
        rw [List.length_replicate] at this
        omega
      · rintro i x σ H2 H2' hi ⟨ls, rows, y3, y4, y5, y6, rfl, s2, fa, lr, sr, ir⟩ ⟨e1, e2⟩
        cases e1
        obtain ⟨k, hk, ek⟩ : ∃ k : Nat, k + i + 1 = p.obs.length ∧ (0 + (p.obs.length : Int) - 1 + (i : Int) * -1) = (k : Int) := ⟨p.obs.length - 1 - i, by omega, by omega⟩
        have e3 : x = V.int (k : Int) := e2.trans (congrArg V.int ek)
        subst e3
        have hkl : k < p.obs.length := by omega
        obtain ⟨ob, hob⟩ : ∃ ob, p.obs[k]? = some ob := ⟨_, List.getElem?_eq_getElem hkl⟩
        have mob := List.mem_of_getElem? hob
        have aO2 := (pa.same s2).aO
        have hO2 := s2.seq hO
        obtain ⟨vk, hvk, dk⟩ := dp_at (i := k) aO2 (by rw [List.getElem?_map, hob]; rfl)
        obtain ⟨tk, fs, rfl, hf, af⟩ := dpT dk
        obtain ⟨v0, g0, rfl, d0, af⟩ := dp1 af
        obtain ⟨v1, g0, rfl, d1, af⟩ := dp1 af
        obtain ⟨v2, g0, rfl, d2, af⟩ := dp1 af
        obtain ⟨v3, g0, rfl, d3, af⟩ := dp1 af
        cases dp0 af
        obtain ⟨Po, ps, rfl, hps, aps⟩ := dpL d3
        have lps : ps.length = ob.ops.length := by rw [dps_len aps, List.length_map]
        have eE : p.E k = ob.calls.map fun nm => (findN p.names nm).toNat := by unfold Pg.E; rw [hob]; rfl
        have lcE : ob.calls.length = (p.E k).length := by rw [eE, List.length_map]
        have nb : ob.calls.length ≤ 60 := by
          have := pw.near k
          rw [lcE]; exact this
        have part : ∀ j, ((ob.ops.take j).flatMap fun o => callsN o.body).length ≤ ob.calls.length := fun j => by
          unfold Ob.calls
          conv => rhs; rw [← List.take_append_drop j ob.ops, List.flatMap_append, List.length_append]
          exact Nat.le_add_right _ _
        have bnd : ∀ j, (outI p.names rows ((ob.ops.take j).flatMap fun o => callsN o.body)).length ≤ 3600 := fun j => by
          have h1 := outI_len (ns := p.names) sr ((ob.ops.take j).flatMap fun o => callsN o.body)
          have h2 := Nat.mul_le_mul (part j) (Nat.le_refl p.obs.length)
          have h3 := Nat.mul_le_mul nb f1
          omega
        walk_at "my rn"
        intro N H3 nN s3 hN
        have hO3 := s3.seq hO2
        have hf3 := s3.seqT hf
        walk_at "my rn"
        refine Rd.ixLq hO3 (Rd.at_val (j := k) rfl hvk) ?_
        walk_at "my rn"
        have hps3 := s3.seq hps
        walk_at "my rn"
        have sN : ∀ {Hx : Hp}, Rd.But N H3 Hx → Same H2 Hx := fun b a x e => b a x (fun z => by rw [z, nN] at e; cases e) (s3 a x e)
        refine for_it (walk_list (xs := ps)) (fun j σ H' => ∃ y6, σ = [some (.ref t), some (.ref O), some (.ref D), y3, some (.int (k : Int)), some (.ref N), y6] ∧ Rd.But N H3 H' ∧ H' N = some (.lst (((k : Int) :: outI p.names rows ((ob.ops.take j).flatMap fun o => callsN o.body)).map V.int))) ⟨_, rfl, Rd.But.refl, hN⟩ (fun j σ H' _ ⟨_, _, b, _⟩ => (sN b).seq hps) ?_ ?_
        · rintro j x σ H5' H5 hj ⟨y6, rfl, b5, hN5⟩ ⟨rfl, hx⟩
          have s25 := sN b5
          obtain ⟨d, hd, dd⟩ := dp_at' (dps_same s25 aps) hx
          obtain ⟨o, ho, rfl⟩ : ∃ o, ob.ops[j]? = some o ∧ o.d = d := by
            rw [List.getElem?_map] at hd
            cases z : ob.ops[j]? with
            | none => rw [z] at hd; cases hd
            | some s => rw [z] at hd; exact ⟨s, rfl, Option.some.inj hd⟩
          have mo := List.mem_of_getElem? ho
          obtain ⟨t5, xs, rfl, hx5, a5⟩ := dpT dd
          obtain ⟨u0, g0, rfl, _, a6⟩ := dp1 a5
          obtain ⟨u1, g0, rfl, _, a7⟩ := dp1 a6
          obtain ⟨u2, g0, rfl, _, a8⟩ := dp1 a7
          obtain ⟨u3, g0, rfl, _, a9⟩ := dp1 a8
          obtain ⟨u4, g0, rfl, d4, a10⟩ := dp1 a9
          obtain ⟨u5, g0, rfl, _, a11⟩ := dp1 a10
          cases dp0 a11
          have tk2 : (ob.ops.take (j + 1)).flatMap (fun o => callsN o.body) = (ob.ops.take j).flatMap (fun o => callsN o.body) ++ callsN o.body := by
            rw [List.take_add_one, ho, List.flatMap_append]; simp
          have lc := part (j + 1)
          rw [tk2, List.length_append] at lc
          have b1 := bnd (j + 1)
          rw [tk2, outI_app, List.length_append] at b1
          walk_at "my rn"
          refine ⟨t, O, Ta, I, os, ts, is, p, u4, o.body, H, D, ls, rows, rfl, pa.same (s2.trans s25), f1, d4, (pw.ops ob mob).2 o mo, fa.same s25, lr, sr, by omega, fun L H6 s6 nL hL => ?_⟩
          have hN6 := s6 _ _ hN5
          walk_at "my rn"
          refine Rd.ext hN6 hL (by rw [List.length_map, List.length_map, List.length_cons]; omega) ?_
          refine ⟨_, rfl, (b5.trans (Rd.But.same s6)).trans Rd.But.at_, ?_⟩
          rw [upd_same, tk2, outI_app, ← List.map_append]; rfl
        · rintro σ H4 ⟨y6, rfl, b4, hN4⟩
          have fin : (ob.ops.take ps.length).flatMap (fun o => callsN o.body) = ob.calls := by rw [lps, List.take_length]; rfl
          have b1 := bnd ps.length
          rw [fin] at hN4 b1
          have s24 := sN b4
          walk_at "my rn"
          refine rd_set p.obs.length (SqL.of hN4) (by rw [List.length_cons]; omega) (fun x m => ?_) fun q1 c1 H5 hc1 nq1 s5 hq1 => ?_
          · rcases List.mem_cons.mp m with rfl | m
            · omega
            · unfold outI at m
              obtain ⟨nm, m1, m2⟩ := List.mem_flatMap.mp m
              have mj : (findN p.names nm).toNat ∈ p.E k := by rw [eE]; exact List.mem_map.mpr ⟨nm, m1, rfl⟩
              obtain ⟨g1, g2⟩ := pw.later _ _ mj
              have e : rows[(findN p.names nm).toNat]? = some rows[(findN p.names nm).toNat] := List.getElem?_eq_getElem (by rw [lr]; exact g2)
              rw [List.getD_eq_getElem?_getD, e] at m2
              obtain ⟨j, e1, e2⟩ := ((ir _ _ e (by omega)).2 x).mp m2
              have := reach_lt pw e2 g2
              omega
          walk_at "my rn"
          refine rd_sorted hq1 (by omega) fun zs z H6 pz mz lz nz s6 hz => ?_
          have hD4 := (fa.same s24).at_
          have hD6 := s6 _ _ (s5 _ _ hD4)
          walk_at "my rn"
          refine Rd.setL hD6 (j := k) (by unfold ixN; rw [if_pos (by omega), if_pos (by rw [List.length_map, fa.len, lr]; omega)]; simp) ?_
          have fs := fa.set (H1 := H6) (L := z) (r := zs) (k := k) s2 ((s24.trans s5).trans s6) ((s24.trans s5).free nz) hz (by rw [lr]; exact hkl)
          rw [List.map_set] at fs
          have isr : IsRow p.E k zs := row_new pw hob lr (fun j r h1 h2 => ir j r h1 (by omega)) pz fun x => by
            rw [mz]; exact decide_eq_true_iff
          have szs : zs.length ≤ p.obs.length := by
            have := strict_len zs 0 p.obs.length pz (fun x m => by
              obtain ⟨j, e1, e2⟩ := (isr.2 x).mp m
              have := reach_lt pw e2 hkl
              omega) (by omega)
            omega
          refine ⟨ls.set k z, rows.set k zs, _, _, _, _, rfl, fun a x e => ?_, fs, by rw [List.length_set]; exact lr, fun r m => ?_, fun j r h1 h2 => ?_⟩
          · rw [upd_ne (fun y => by rw [y, nD] at e; cases e)]
            exact s6 _ _ (s5 _ _ (s24 _ _ (s2 _ _ e)))
          · rcases List.mem_or_eq_of_mem_set m with m | rfl
            · exact sr r m
            · exact szs
          · rw [List.getElem?_set] at h1
            by_cases e : k = j
            · rw [if_pos e, if_pos (by rw [lr]; exact hkl)] at h1
              cases h1
              subst e
              exact isr
            · rw [if_neg e] at h1
              exact ir j r h1 (by omega)
      · rintro σ H2 ⟨ls, rows, y3, y4, y5, y6, rfl, s2, fa, lr, sr, ir⟩
        walk_at "my rn"
        exact q D ls rows H2 s2 fa lr fun k r h => ir k r h (by omega)
end

end Mine

set_option Elab.async false
set_option linter.all false
set_option maxRecDepth 100000
set_option maxHeartbeats 1000000

--@@rec _law_expr _law_body _law_statement _copied _copied_statement _law_names

--@@guards
namespace Mine
open PySem PySem.Spec PyProof.Rows L2
local macro_rules | `(tactic| walk_at "my rn") => `(tactic| (repeat (first | with_reducible refine Rd.catQI ?_ | with_reducible refine Rd.revN ?_ | with_reducible refine Rd.lzip ?_ | with_reducible refine Rd.fld ?_ | with_reducible refine Rd.sfld ?_ | with_reducible refine Rd.meth ?_ | with_reducible refine Rd.make ?_ | with_reducible refine Rd.izip ?_ | with_reducible refine Rd.tupN ?_ | with_reducible refine Rd.lstN ?_ | with_reducible refine Rd.cbListOf ?_ | with_reducible refine Rd.cbListOfR ?_ | with_reducible refine Rd.catI ?_ | with_reducible refine Rd.slN ?_ | with_reducible refine Rd.cbSrtI ?_ | with_reducible refine Rd.seq ?_ | with_reducible refine Rd.next ?_ | with_reducible refine Rd.brk ?_ | with_reducible refine Rd.cont ?_ | with_reducible refine Rd.asg ?_ | with_reducible refine Rd.ret ?_ | with_reducible refine Rd.retN ?_ | with_reducible refine Rd.drop ?_ | with_reducible refine Rd.ifs ?_ | with_reducible refine Rd.ife ?_ | with_reducible refine Rd.test ?_ | with_reducible refine Rd.tb_ ?_ | with_reducible refine Rd.bl ?_ | with_reducible refine Rd.bl2 ?_ | with_reducible refine Rd.and_ ?_ | with_reducible refine Rd.or_ ?_ | with_reducible refine Rd.not_ ?_ | with_reducible refine Rd.andV ?_ | with_reducible refine Rd.orV ?_ | with_reducible refine Rd.notV ?_ | with_reducible refine Rd.op ?_ | with_reducible refine Rd.un ?_ | with_reducible refine Rd.I0 ?_ | with_reducible refine Rd.U ?_ | with_reducible refine Rd.ip ?_ | with_reducible refine Rd.c_ ?_ | with_reducible refine Rd.nil ?_ | with_reducible refine Rd.cons ?_ | with_reducible refine Rd.call ?_ | with_reducible refine Rd.cb ?_ | with_reducible refine Rd.bm ?_ | with_reducible refine Rd.bm0 ?_ | with_reducible refine Rd.nopart ?_ | with_reducible refine Rd.part ?_ | with_reducible refine Rd.int1 ?_ | with_reducible refine Rd.ints1 ?_ | with_reducible refine Rd.ints2 ?_ | with_reducible refine Rd.gcons ?_ | with_reducible refine Rd.gnil ?_ | with_reducible refine Rd.sub ?_ | with_reducible refine Rd.isN ?_ | with_reducible refine Rd.chain ?_ | with_reducible refine Rd.rf ?_ | with_reducible refine Rd.tyS ?_ | with_reducible refine Rd.intI ?_ | with_reducible refine Rd.lc ?_ | with_reducible refine Rd.for_ ?_ | with_reducible refine Rd.ilist ?_ | with_reducible refine Rd.itup ?_ | with_reducible refine Rd.irng1 ?_ | with_reducible refine Rd.irng2 ?_ | with_reducible refine Rd.ienum ?_ | with_reducible refine Rd.istr ?_ | with_reducible refine Rd.refA ?_ | with_reducible refine Rd.strA ?_ | with_reducible refine Rd.yes ?_ | with_reducible refine Rd.ifT ?_ | with_reducible refine Rd.ifF ?_ | with_reducible refine Rd.ifnT ?_ | with_reducible refine Rd.ifnF ?_ | with_reducible refine Rd.isi_ii ?_ | with_reducible refine Rd.isi_ib ?_ | with_reducible refine Rd.isi_is ?_ | with_reducible refine Rd.isi_il ?_ | with_reducible refine Rd.isi_it ?_ | with_reducible refine Rd.isi_id ?_ | with_reducible refine Rd.isi_bi ?_ | with_reducible refine Rd.isi_bb ?_ | with_reducible refine Rd.isi_bs ?_ | with_reducible refine Rd.isi_bl ?_ | with_reducible refine Rd.isi_bt ?_ | with_reducible refine Rd.isi_bd ?_ | with_reducible refine Rd.isi_si ?_ | with_reducible refine Rd.isi_sb ?_ | with_reducible refine Rd.isi_ss ?_ | with_reducible refine Rd.isi_sl ?_ | with_reducible refine Rd.isi_st ?_ | with_reducible refine Rd.isi_sd ?_ | with_reducible refine Rd.isi_ni ?_ | with_reducible refine Rd.isi_nb ?_ | with_reducible refine Rd.isi_ns ?_ | with_reducible refine Rd.isi_nl ?_ | with_reducible refine Rd.isi_nt ?_ | with_reducible refine Rd.isi_nd ?_ | with_reducible refine Rd.sl ?_ | with_reducible refine Rd.v0 ?_ | with_reducible refine Rd.v1 ?_ | with_reducible refine Rd.v2 ?_ | with_reducible refine Rd.v3 ?_ | with_reducible refine Rd.v4 ?_ | with_reducible refine Rd.v5 ?_ | with_reducible refine Rd.v6 ?_ | with_reducible refine Rd.v7 ?_ | with_reducible refine Rd.v8 ?_ | with_reducible refine Rd.v9 ?_ | with_reducible refine Rd.v10 ?_ | with_reducible refine Rd.v11 ?_ | with_reducible refine Rd.v12 ?_ | with_reducible refine Rd.v13 ?_ | with_reducible refine Rd.v14 ?_ | with_reducible refine Rd.v15 ?_ | with_reducible refine Rd.n0 ?_ | with_reducible refine Rd.n1 ?_ | with_reducible refine Rd.n2 ?_ | with_reducible refine Rd.n3 ?_ | with_reducible refine Rd.n4 ?_ | with_reducible refine Rd.n5 ?_ | with_reducible refine Rd.n6 ?_ | with_reducible refine Rd.n7 ?_ | with_reducible refine Rd.n8 ?_ | with_reducible refine Rd.n9 ?_ | with_reducible refine Rd.n10 ?_ | with_reducible refine Rd.n11 ?_ | with_reducible refine Rd.n12 ?_ | with_reducible refine Rd.n13 ?_ | with_reducible refine Rd.n14 ?_ | with_reducible refine Rd.n15 ?_ | with_reducible refine Rd.g0 ?_ | with_reducible refine Rd.g1 ?_ | with_reducible refine Rd.g2 ?_ | with_reducible refine Rd.g3 ?_ | with_reducible refine Rd.g4 ?_ | with_reducible refine Rd.g5 ?_ | with_reducible refine Rd.g6 ?_ | with_reducible refine Rd.g7 ?_ | with_reducible refine Rd.g8 ?_ | with_reducible refine Rd.g9 ?_ | with_reducible refine Rd.g10 ?_ | with_reducible refine Rd.g11 ?_ | with_reducible refine Rd.g12 ?_ | with_reducible refine Rd.g13 ?_ | with_reducible refine Rd.g14 ?_ | with_reducible refine Rd.g15 ?_ | ((with_reducible apply Rd.glst); (first | assumption | exact upd_same); exact rfl) | ((with_reducible apply Rd.gtP); assumption; assumption) | ((with_reducible apply Rd.revq); first | assumption | exact SqL.of (by assumption)) | ((with_reducible apply Rd.fldI); (first | assumption | exact upd_same); assumption; assumption; (first | assumption | with_unfolding_all rfl)) | ((with_reducible apply Rd.methI); (first | assumption | exact upd_same); (first | assumption | with_unfolding_all rfl)) | ((with_reducible apply Rd.sfldI); (first | assumption | exact upd_same); assumption; assumption; exact Nat.le_of_ble_eq_true rfl) | ((with_reducible apply Rd.maxL); assumption) | ((with_reducible apply Rd.anyL); assumption) | ((with_reducible apply Rd.sumL); assumption) | ((with_reducible refine Rd.izI (by assumption) (by assumption) ?_)) | ((with_reducible refine Rd.eq ?_ ?_); exact rfl) | ((with_reducible refine Rd.ne ?_ ?_); exact rfl) | ((with_reducible refine Rd.szA ?_ ?_); exact Nat.le_of_ble_eq_true rfl) | ((with_reducible refine Rd.I ?_ ?_); first | assumption | decide | exact Or.inr (by decide +kernel) | exact Or.inl (by decide +kernel) | exact ⟨by decide, by decide⟩ | exact ⟨by decide, by decide, by decide⟩ | omega) | ((with_reducible apply Rd.tyL); first | assumption | exact upd_same) | ((with_reducible apply Rd.tyLq); assumption) | ((with_reducible apply Rd.ixL); (first | assumption | exact upd_same); exact rfl) | ((with_reducible apply Rd.ixT); (first | assumption | exact upd_same); exact rfl) | ((with_reducible apply Rd.ixLq); assumption; exact rfl) | ((with_reducible apply Rd.ixTq); assumption; exact rfl) | ((with_reducible apply Rd.gtup); (first | assumption | exact upd_same); exact rfl) | ((with_reducible apply Rd.gtupq); assumption; exact rfl) | ((with_reducible apply Rd.sqAq); assumption) | ((with_reducible apply Rd.stAq); assumption) | ((with_reducible apply Rd.enAq); assumption) | ((with_reducible apply Rd.lenLq); assumption) | ((with_reducible apply Rd.lenTq); assumption) | ((with_reducible apply Rd.sqA); first | assumption | exact upd_same) | ((with_reducible apply Rd.stA); first | assumption | exact upd_same) | ((with_reducible apply Rd.enA); first | assumption | exact upd_same) | ((with_reducible apply Rd.lenL); first | assumption | exact upd_same) | ((with_reducible apply Rd.lenT); first | assumption | exact upd_same) | ((with_reducible refine Rd.nwT ?_ ?_); exact Nat.le_of_ble_eq_true rfl) | ((with_reducible refine Rd.nwL ?_ ?_); exact Nat.le_of_ble_eq_true rfl) | ((with_reducible apply Rd.listOf); assumption) | ((with_reducible apply Rd.listOfq); assumption) | ((with_reducible apply Rd.slo); assumption) | ((with_reducible apply Rd.slq); assumption) | ((with_reducible apply Rd.srtI); assumption) | ((with_reducible apply Rd.srtIo); assumption) | ((with_reducible refine Rd.isi_li (by assumption) ?_)) | ((with_reducible refine Rd.isi_lb (by assumption) ?_)) | ((with_reducible refine Rd.isi_ls (by assumption) ?_)) | ((with_reducible refine Rd.isi_ll (by assumption) ?_)) | ((with_reducible refine Rd.isi_lt (by assumption) ?_)) | ((with_reducible refine Rd.isi_ld (by assumption) ?_)) | ((with_reducible refine Rd.isi_ti (by assumption) ?_)) | ((with_reducible refine Rd.isi_tb (by assumption) ?_)) | ((with_reducible refine Rd.isi_ts (by assumption) ?_)) | ((with_reducible refine Rd.isi_tl (by assumption) ?_)) | ((with_reducible refine Rd.isi_tt (by assumption) ?_)) | ((with_reducible refine Rd.isi_td (by assumption) ?_)))))
/-! ### comprehensions whose elements are new lists of ints -/
theorem lc_fresh {J : It} {n : Nat} {G : Hp → Prop} {Y : Nat → Hp → V → Hp → Prop} (w : Walk J n G Y) {g : TG} {te : TE} {vs : List Nat} {σ : L2.St} {H1 : Hp} {D : Addr} {Qd : Hp → Prop} (R : Nat → List Int → Prop)
    (nD : H1 D = none) (hn : n ≤ 90000) (hG : ∀ H, Same H1 H → G H)
    (hs : ∀ i x H H' (Kt : VK), i < n → Same H1 H → Y i H x H' → (∀ a r H4, R i r → Same H H4 → H a = none → H4 a = some (.lst (r.map V.int)) → Kt (.ref a) H4) → g x (wipe σ vs) H' fun σ2 H2 => wipe σ2 vs = wipe σ vs ∧ te σ2 H2 Kt)
    (hd : ∀ H ls rows, rows.length = n → (∀ (i : Nat) r, rows[i]? = some r → R i r) → FoundAt H1 H D ls rows → Same H1 H → Qd H) :
    ∃ W : Nat → Nat → Hp → Prop, (∃ m, W 0 m (upd H1 D (.lst []))) ∧ ∀ i m H, W i m H →
      (J.stop i H ∧ Qd H) ∨ (J.go i H ∧ ∃ Nx : Hp → Prop, (∀ H', Nx H' → ∃ m', m' < m ∧ W (i + 1) m' H') ∧ ∀ x H', J.yld i H x H' → g x (wipe σ vs) H' fun σ2 H2 => wipe σ2 vs = wipe σ vs ∧ tYes σ2 H2 fun b H3 =>
        if b = true then te σ2 H3 fun y H4 => ∃ acc, H4 D = some (.lst acc) ∧ acc.length < sizeLine ∧ Nx (upd H4 D (.lst (acc ++ [y]))) else Nx H3) := by
  refine lc_it w (fun i H => ∃ ls rows, rows.length = i ∧ (∀ (i : Nat) r, rows[i]? = some r → R i r) ∧ FoundAt H1 H D ls rows ∧ Same H1 H)
    ⟨[], [], rfl, by simp, ⟨upd_same, rfl, by simp, .nil, by simp, nD⟩, same_new nD⟩ (fun i H _ ⟨_, _, _, _, _, s⟩ => hG H s) (fun i x H H' hi ⟨ls, rows, lr, hr, fa, s⟩ y => ?_) (fun H ⟨ls, rows, lr, hr, fa, s⟩ => hd H ls rows lr hr fa s)
  refine hs i x H H' _ hi s y fun a r H4 ra s4 na ha => ?_
  have nD' : a ≠ D := fun z => by have := fa.at_; rw [← z, na] at this; cases this
  have nm : a ∉ ls := fun m => by obtain ⟨x, e⟩ := fa.live m; rw [na] at e; cases e
  refine ⟨_, s4 _ _ fa.at_, Rd.szl (by rw [List.length_map, fa.len]; omega), ls ++ [a], rows ++ [r], by simp [lr], fun j r' h => ?_, ?_, fun b x e => ?_⟩
  · by_cases hj : j < rows.length
    · rw [List.getElem?_append_left hj] at h
      exact hr j r' h
    · have hj2 := (List.getElem?_eq_some_iff.mp h).1
      simp at hj2
      have ej : j = rows.length := by omega
      subst ej
      rw [List.getElem?_append_right (Nat.le_refl _)] at h
      simp at h
      subst h
      rw [lr]; exact ra
  · exact {
      at_ := by rw [upd_same, List.map_append]; rfl
      len := by simp [fa.len]
      row := fun j b r' h1 h2 => by
        by_cases hj : j < rows.length
        · rw [List.getElem?_append_left (by rw [fa.len]; exact hj)] at h1
          rw [List.getElem?_append_left hj] at h2
          rw [upd_ne (fa.new b (List.mem_of_getElem? h1)).2]
          exact s4 _ _ (fa.row j b r' h1 h2)
        · have hj2 := (List.getElem?_eq_some_iff.mp h2).1
          simp at hj2
          have ej : j = rows.length := by omega
          subst ej
          rw [List.getElem?_append_right (Nat.le_refl _)] at h2
          rw [← fa.len, List.getElem?_append_right (Nat.le_refl _)] at h1
          simp at h1 h2
          subst h1; subst h2
          rw [upd_ne nD']; exact ha
      nd := List.nodup_append.mpr ⟨fa.nd, by simp, fun b m c m2 z => nm (by rw [List.mem_singleton] at m2; rw [← m2, ← z]; exact m)⟩
      new := fun b m => by
        rcases List.mem_append.mp m with m | m
        · exact fa.new b m
        · rw [List.mem_singleton] at m
          subst m
          exact ⟨s.free na, nD'⟩
      newF := nD }
  · rw [upd_ne (fun z => by rw [z, nD] at e; cases e)]
    exact s4 _ _ (s _ _ e)
theorem FoundAt.cat {H0 H1 H2 H3 : Hp} {A B p : Addr} {ls ls2 : List Addr} {rows rows2 : List (List Int)} (f : FoundAt H0 H1 A ls rows) (g : FoundAt H1 H2 B ls2 rows2) (s0 : Same H0 H1) (s1 : Same H1 H2) (s2 : Same H2 H3) (np : H2 p = none) (hp : H3 p = some (.lst (ls.map V.ref ++ ls2.map V.ref))) : FoundAt H0 H3 p (ls ++ ls2) (rows ++ rows2) where
  at_ := by rw [hp, List.map_append]
  len := by simp [f.len, g.len]
  row := fun j b r h1 h2 => by
    by_cases hj : j < rows.length
    · rw [List.getElem?_append_left (by rw [f.len]; exact hj)] at h1
      rw [List.getElem?_append_left hj] at h2
      exact s2 _ _ (s1 _ _ (f.row j b r h1 h2))
    · rw [List.getElem?_append_right (by rw [f.len]; omega), f.len] at h1
      rw [List.getElem?_append_right (by omega)] at h2
      exact s2 _ _ (g.row _ b r h1 h2)
  nd := List.nodup_append.mpr ⟨f.nd, g.nd, fun a m b m2 z => by
    obtain ⟨x, e⟩ := f.live m
    rw [z, (g.new b m2).1] at e; cases e⟩
  new := fun a m => by
    rcases List.mem_append.mp m with m | m
    · obtain ⟨x, e⟩ := f.live m
      exact ⟨(f.new a m).1, fun z => by rw [z] at e; rw [s1 _ _ e] at np; cases np⟩
    · obtain ⟨x, e⟩ := g.live m
      exact ⟨s0.free (g.new a m).1, fun z => by rw [z, np] at e; cases e⟩
  newF := (s0.trans s1).free np
/-! ### used -/
def Pg.uses (p : Pg) : List (List Str) := p.tasks.map (fun t => callsN t.body) ++ p.irs.map (fun t => [t.obj])
def IsUse (p : Pg) (nms : List Str) (u : List Int) : Prop := u.Pairwise (· < ·) ∧ ∀ x : Int, x ∈ u ↔ ∃ j : Nat, x = j ∧ ∃ nm ∈ nms, Reach p.E (findN p.names nm).toNat j
theorem mem_out {p : Pg} {rows : List (List Int)} {nms : List Str} (lr : rows.length = p.obs.length) (ir : ∀ k r, rows[k]? = some r → IsRow p.E k r) (hn : ∀ nm ∈ nms, nm ∈ p.names) (x : Int) : x ∈ outI p.names rows nms ↔ ∃ j : Nat, x = j ∧ ∃ nm ∈ nms, Reach p.E (findN p.names nm).toNat j := by
  unfold outI
  rw [List.mem_flatMap]
  have at_ : ∀ nm ∈ nms, ∃ r, rows[(findN p.names nm).toNat]? = some r ∧ rows.getD (findN p.names nm).toNat [] = r := fun nm m => by
    have h := (findN_mem (hn nm m)).1
    unfold Pg.names at h
    rw [List.length_map] at h
    have e : rows[(findN (p.obs.map Ob.name) nm).toNat]? = some rows[(findN (p.obs.map Ob.name) nm).toNat] := List.getElem?_eq_getElem (by rw [lr]; exact h)
    exact ⟨_, e, by rw [List.getD_eq_getElem?_getD]; unfold Pg.names; rw [e]; rfl⟩
  constructor
  · rintro ⟨nm, m, h⟩
    obtain ⟨r, e1, e2⟩ := at_ nm m
    rw [e2] at h
    obtain ⟨j, e3, e4⟩ := ((ir _ _ e1).2 x).mp h
    exact ⟨j, e3, nm, m, e4⟩
  · rintro ⟨j, e3, nm, m, e4⟩
    obtain ⟨r, e1, e2⟩ := at_ nm m
    exact ⟨nm, m, by rw [e2]; exact ((ir _ _ e1).2 x).mpr ⟨j, e3, e4⟩⟩
section
variable {P : Program} {w : World} {K : PySem.W.Frag} {mg : Str → Option Value} {base : Heap}
def sp_used (K : PySem.W.Frag) : Sp := fun vs H Q _ => ∃ (t O T I : Addr) (os ts is : List V) (p : Pg), vs = [.ref t] ∧ PgAt K H t O T I os ts is p ∧ PgW p ∧
  ∀ (U : Addr) (ls : List Addr) (rows : List (List Int)) (H' : Hp), Same H H' → FoundAt H H' U ls rows → rows.length = p.uses.length → (∀ (k : Nat) nms u, p.uses[k]? = some nms → rows[k]? = some u → IsUse p nms u) → Q (.ref U) H'
theorem ok_used (T : Top K mg) : FnOk P w K mg base CX0 24 T.a_used T.d_used ["program"]  (sp_used K) := by
  refine T.F_used.ok sc_used (fun vs H Q E h => ?_) (fun cdv A outer s H vs Q E hr h => ?_)
  · obtain ⟨_, _, _, _, _, _, _, _, rfl, _⟩ := h
    rfl
  · obtain ⟨t, O, Ta, I, os, ts, is, p, rfl, pa, pw, q⟩ := h
    refine ⟨_, (pss_cons (ps_set (i := 1) sc_used.nd rfl (by first | exact Or.inl rfl | exact Or.inr rfl) (pe_call (ok_reached T) (hr.mono (by decide)) (by rfl) T.g_reached T.F_reached.kp T.b_reached .nil pass0 (pa_cons (pv 0) pa_nil)))
  (pss_cons (ps_setLc (i := 2) (own := [("task", 3)]) (g := gName 3) (tt := tYes) rfl sc_used.nd rfl rfl (sw_true rfl rfl rfl (by decide +kernel)) (pi_list (pe_ix ix_tup (pv 0) pe_int (fun _ _ => rfl))) (blkOk_by (N := ["program", "found", "by_tasks", "task", "by_interrupts", "interrupt"]) (sc := defScope s_used) (by decide +kernel)) (fun _ _ _ _ _ => pg_name (i := 3) sc_used.nd rfl (Or.inl rfl)) (fun _ _ _ _ _ => pts_nil) (fun _ _ _ _ _ => (pe_callB (show CallR _ (Value.builtin "sorted") (rSortedSet w) from cr_sortedSet rfl) (by rfl) T.m_sorted (by decide +kernel) (pa_cons (pe_callTy (show CallR _ (Value.type "set") (rSetI K w) from cr_setI rfl) (by rfl) T.m_set (by decide +kernel) (pa_cons (pe_call (ok__reached_by T) (hr.mono (by decide)) (by rfl) T.g__reached_by T.F__reached_by.kp T.b__reached_by .nil pass0 (pa_cons (pv 0) (pa_cons (pe_ix (r := rIxT K) ix_tup (pv 3) pe_int (fun _ _ => rfl)) (pa_cons (pv 1) pa_nil)))) pa_nil)) pa_nil))))
  (pss_cons (ps_setLc (i := 4) (own := [("interrupt", 5)]) (g := gName 5) (tt := tYes) rfl sc_used.nd rfl rfl (sw_true rfl rfl rfl (by decide +kernel)) (pi_list (pe_ix ix_tup (pv 0) pe_int (fun _ _ => rfl))) (blkOk_by (N := ["program", "found", "by_tasks", "task", "by_interrupts", "interrupt"]) (sc := defScope s_used) (by decide +kernel)) (fun _ _ _ _ _ => pg_name (i := 5) sc_used.nd rfl (Or.inl rfl)) (fun _ _ _ _ _ => pts_nil) (fun _ _ _ _ _ => (pe_callTy (show CallR _ (Value.type "list") (rListOf K) from call_list_of) (by rfl) T.m_list (by decide +kernel) (pa_cons (pe_ix (r := rIxL K) ix_list (pv 1) (pe_call (ok_find T) (hr.mono (by decide)) (by rfl) T.g_find T.F_find.kp T.b_find .nil pass0 (pa_cons (pe_ix (r := rIxT K) ix_tup (pv 0) pe_int (fun _ _ => rfl)) (pa_cons (pe_ix (r := rIxT K) ix_tup (pv 5) pe_int (fun _ _ => rfl)) pa_nil))) (fun _ _ => rfl)) pa_nil))))
  (pss_one (ps_ret (pe_op op_cat (pv 2) (pv 4))))))), ?_⟩
    obtain ⟨w0, w1, w2, ht⟩ := pa.ex
    have hT := pa.hT
    have hI := pa.hI
    have lT : ts.length = p.tasks.length := by rw [dps_len pa.aT, List.length_map]
    have lI : is.length = p.irs.length := by rw [dps_len pa.aI, List.length_map]
    obtain ⟨f1, f2, f3⟩ := pw.few
    rw [show ∀ a0 : V, L2.start ["program", "found", "by_tasks", "task", "by_interrupts", "interrupt"] [a0] = [some a0, none, none, none, none, none] from fun _ => rfl]
    walk_at "my rn"
    refine ⟨t, O, Ta, I, os, ts, is, p, rfl, pa, pw, fun F ls rows H1 s1 fa lr ir => ?_⟩
    have ht1 := s1.seqT ht
    have hT1 := s1.seq hT
    have sr : ∀ r ∈ rows, r.length ≤ p.obs.length := fun r m => by
      obtain ⟨k, hk⟩ := List.getElem?_of_mem m
      have hkl := (List.getElem?_eq_some_iff.mp hk).1
      have := strict_len r 0 p.obs.length (ir k r hk).1 (fun x m => by
        obtain ⟨j, e1, e2⟩ := ((ir k r hk).2 x).mp m
        have := reach_lt pw e2 (by omega)
        omega) (by omega)
      omega
    walk_at "my rn"
    refine fun D nD => lc_fresh (walk_list (xs := ts)) (fun i r => ∀ tk, p.tasks[i]? = some tk → IsUse p (callsN tk.body) r) nD (by omega) (fun H' s => s.seq hT1) (fun i x H2' H2 Kt hi s2 y kt => ?_) (fun H2 ls2 rows2 lr2 hr2 fa2 s2 => ?_)
    · obtain ⟨rfl, hx⟩ := y
      obtain ⟨d, hd, dd⟩ := dp_at' (pa.same (s1.trans s2)).aT hx
      obtain ⟨tk, htk, rfl⟩ : ∃ o, p.tasks[i]? = some o ∧ o.d = d := by
        rw [List.getElem?_map] at hd
        cases z : p.tasks[i]? with
        | none => rw [z] at hd; cases hd
        | some s => rw [z] at hd; exact ⟨s, rfl, Option.some.inj hd⟩
      obtain ⟨bp, nb⟩ := pw.body tk (List.mem_of_getElem? htk)
      obtain ⟨t5, xs, rfl, hx5, a5⟩ := dpT dd
      obtain ⟨u0, g0, rfl, _, a6⟩ := dp1 a5
      obtain ⟨u1, g0, rfl, _, a7⟩ := dp1 a6
      obtain ⟨u2, g0, rfl, _, a8⟩ := dp1 a7
      obtain ⟨u3, g0, rfl, _, a9⟩ := dp1 a8
      obtain ⟨u4, g0, rfl, _, a10⟩ := dp1 a9
      obtain ⟨u5, g0, rfl, d5, a11⟩ := dp1 a10
      cases dp0 a11
      have b0 := outI_len (ns := p.names) sr (callsN tk.body)
      have nb2 : (callsN tk.body).length ≤ 100 := by omega
      have b1 := Nat.mul_le_mul nb f1
      simp only [List.map_cons, List.map_nil, L2.wipe, List.set_cons_succ, List.set_cons_zero]
      walk_at "my rn"
      refine ⟨rfl, ?_⟩
      walk_at "my rn"
      refine ⟨t, O, Ta, I, os, ts, is, p, u5, tk.body, H, F, ls, rows, rfl, pa.same (s1.trans s2), f1, d5, bp, fa.same s2, lr, sr, nb2, fun L H6 s6 nL hL => ?_⟩
      walk_at "my rn"
      refine rd_set p.obs.length (SqL.of hL) (by omega) (fun x m => ?_) fun q1 c1 H7 hc1 nq1 s7 hq1 => ?_
      · obtain ⟨j, e1, nm, m1, e2⟩ := (mem_out lr ir bp.calls x).mp m
        have h1 := (findN_mem (bp.calls nm m1)).1
        unfold Pg.names at h1
        rw [List.length_map] at h1
        have := reach_lt pw e2 h1
        omega
      walk_at "my rn"
      refine rd_sorted hq1 (by omega) fun zs z H8 pz mz lz nz s8 hz => ?_
      refine kt z zs H8 (fun tk' e => ?_) ((s6.trans s7).trans s8) ((s6.trans s7).free nz) hz
      rw [htk] at e; cases e
      exact ⟨pz, fun x => by rw [mz, decide_eq_true_iff]; exact mem_out lr ir bp.calls x⟩
    · have s12 := s1.trans s2
      have ht2 := s12.seqT ht
      have hI2 := s12.seq hI
      walk_at "my rn"
      refine fun D2 nD2 => lc_fresh (walk_list (xs := is)) (fun i r => ∀ tk, p.irs[i]? = some tk → IsUse p [tk.obj] r) nD2 (by omega) (fun H' s => s.seq hI2) (fun i x H3' H3 Kt hi s3 y kt => ?_) (fun H3 ls3 rows3 lr3 hr3 fa3 s3 => ?_)
      · obtain ⟨rfl, hx⟩ := y
        have s13 := s12.trans s3
        obtain ⟨d, hd, dd⟩ := dp_at' (pa.same s13).aI hx
        obtain ⟨tk, htk, rfl⟩ : ∃ o, p.irs[i]? = some o ∧ o.d = d := by
          rw [List.getElem?_map] at hd
          cases z : p.irs[i]? with
          | none => rw [z] at hd; cases hd
          | some s => rw [z] at hd; exact ⟨s, rfl, Option.some.inj hd⟩
        have mo := pw.irs tk (List.mem_of_getElem? htk)
        obtain ⟨m1, m2⟩ := findN_mem mo
        have m3 : (findN p.names tk.obj).toNat < rows.length := by rw [lr]; unfold Pg.names at m1; rwa [List.length_map] at m1
        obtain ⟨t5, xs, rfl, hx5, a5⟩ := dpT dd
        obtain ⟨u0, g0, rfl, _, a6⟩ := dp1 a5
        obtain ⟨u1, g0, rfl, _, a7⟩ := dp1 a6
        obtain ⟨u2, g0, rfl, _, a8⟩ := dp1 a7
        obtain ⟨u3, g0, rfl, _, a9⟩ := dp1 a8
        obtain ⟨u4, g0, rfl, d4, a10⟩ := dp1 a9
        cases dpS d4
        obtain ⟨u5, g0, rfl, _, a11⟩ := dp1 a10
        obtain ⟨u6, g0, rfl, _, a12⟩ := dp1 a11
        cases dp0 a12
        have ht3 := s13.seqT ht
        have hO3 := (pa.same s13).hO
        simp only [List.map_cons, List.map_nil, L2.wipe, List.set_cons_succ, List.set_cons_zero]
        walk_at "my rn"
        refine ⟨rfl, ?_⟩
        walk_at "my rn"
        refine ⟨O, os, p.names, tk.obj, rfl, hO3, named_of (pa.same s13).aO, by rw [pa.lenO]; omega, fun H4 s4 => ?_⟩
        obtain ⟨a, r, g1, g2, g3⟩ := (((fa.same s2).same s3).same s4).get m3
        have hF3 := (((fa.same s2).same s3).same s4).at_
        refine Rd.ixL hF3 (Rd.at_val (j := (findN p.names tk.obj).toNat) m2 (by rw [List.getElem?_map, g1]; rfl)) ?_
        walk_at "my rn"
        intro L H5 nL s5 hL
        walk_at "my rn"
        refine kt L r H5 (fun tk' e => ?_) (s4.trans s5) (s4.free nL) hL
        rw [htk] at e; cases e
        refine ⟨(ir _ _ g2).1, fun x => ?_⟩
        rw [(ir _ _ g2).2]
        constructor
        · rintro ⟨j, e1, e2⟩
          exact ⟨j, e1, _, List.mem_singleton.mpr rfl, e2⟩
        · rintro ⟨j, e1, nm, m, e2⟩
          rw [List.mem_singleton.mp m] at e2
          exact ⟨j, e1, e2⟩
      · have h2 := s3 _ _ fa2.at_
        have h3 := fa3.at_
        walk_at "my rn"
        refine Rd.cat h2 h3 (by rw [List.length_map, List.length_map, fa2.len, fa3.len]; omega) fun U H4 nU s4 hU => ?_
        have f := FoundAt.cat fa2 fa3 s2 s3 s4 nU hU
        have f0 : FoundAt H H4 U (ls2 ++ ls3) (rows2 ++ rows3) := { f with new := fun a m => ⟨s1.free (f.new a m).1, (f.new a m).2⟩, newF := s1.free f.newF }
        refine q U _ _ H4 ((s12.trans s3).trans s4) f0 (by unfold Pg.uses; simp [lr2, lr3, lT, lI]) fun k nms u h1 h2 => ?_
        unfold Pg.uses at h1
        by_cases hk : k < rows2.length
        · rw [List.getElem?_append_left hk] at h2
          rw [List.getElem?_append_left (by rw [List.length_map]; omega), List.getElem?_map] at h1
          cases z : p.tasks[k]? with
          | none => rw [z] at h1; cases h1
          | some tk =>
            rw [z] at h1; cases h1
            exact hr2 k u h2 tk z
        · rw [List.getElem?_append_right (by omega)] at h2
          rw [List.getElem?_append_right (by rw [List.length_map]; omega), List.getElem?_map, List.length_map] at h1
          rw [lr2, lT] at h2
          cases z : p.irs[k - p.tasks.length]? with
          | none => rw [z] at h1; cases h1
          | some tk =>
            rw [z] at h1; cases h1
            exact hr3 _ u h2 tk z
end

end Mine

set_option Elab.async false
set_option linter.all false
set_option maxRecDepth 100000
set_option maxHeartbeats 1000000

--@@rec _law_expr _law_body _law_statement _copied _copied_statement _law_names

--@@guards
namespace Mine
open PySem PySem.Spec PyProof.Rows L2
local macro_rules | `(tactic| walk_at "my rn") => `(tactic| (repeat (first | with_reducible refine Rd.catQI ?_ | with_reducible refine Rd.revN ?_ | with_reducible refine Rd.lzip ?_ | with_reducible refine Rd.fld ?_ | with_reducible refine Rd.sfld ?_ | with_reducible refine Rd.meth ?_ | with_reducible refine Rd.make ?_ | with_reducible refine Rd.izip ?_ | with_reducible refine Rd.tupN ?_ | with_reducible refine Rd.lstN ?_ | with_reducible refine Rd.cbListOf ?_ | with_reducible refine Rd.cbListOfR ?_ | with_reducible refine Rd.catI ?_ | with_reducible refine Rd.slN ?_ | with_reducible refine Rd.cbSrtI ?_ | with_reducible refine Rd.seq ?_ | with_reducible refine Rd.next ?_ | with_reducible refine Rd.brk ?_ | with_reducible refine Rd.cont ?_ | with_reducible refine Rd.asg ?_ | with_reducible refine Rd.ret ?_ | with_reducible refine Rd.retN ?_ | with_reducible refine Rd.drop ?_ | with_reducible refine Rd.ifs ?_ | with_reducible refine Rd.ife ?_ | with_reducible refine Rd.test ?_ | with_reducible refine Rd.tb_ ?_ | with_reducible refine Rd.bl ?_ | with_reducible refine Rd.bl2 ?_ | with_reducible refine Rd.and_ ?_ | with_reducible refine Rd.or_ ?_ | with_reducible refine Rd.not_ ?_ | with_reducible refine Rd.andV ?_ | with_reducible refine Rd.orV ?_ | with_reducible refine Rd.notV ?_ | with_reducible refine Rd.op ?_ | with_reducible refine Rd.un ?_ | with_reducible refine Rd.I0 ?_ | with_reducible refine Rd.U ?_ | with_reducible refine Rd.ip ?_ | with_reducible refine Rd.c_ ?_ | with_reducible refine Rd.nil ?_ | with_reducible refine Rd.cons ?_ | with_reducible refine Rd.call ?_ | with_reducible refine Rd.cb ?_ | with_reducible refine Rd.bm ?_ | with_reducible refine Rd.bm0 ?_ | with_reducible refine Rd.nopart ?_ | with_reducible refine Rd.part ?_ | with_reducible refine Rd.int1 ?_ | with_reducible refine Rd.ints1 ?_ | with_reducible refine Rd.ints2 ?_ | with_reducible refine Rd.gcons ?_ | with_reducible refine Rd.gnil ?_ | with_reducible refine Rd.sub ?_ | with_reducible refine Rd.isN ?_ | with_reducible refine Rd.chain ?_ | with_reducible refine Rd.rf ?_ | with_reducible refine Rd.tyS ?_ | with_reducible refine Rd.intI ?_ | with_reducible refine Rd.lc ?_ | with_reducible refine Rd.for_ ?_ | with_reducible refine Rd.ilist ?_ | with_reducible refine Rd.itup ?_ | with_reducible refine Rd.irng1 ?_ | with_reducible refine Rd.irng2 ?_ | with_reducible refine Rd.ienum ?_ | with_reducible refine Rd.istr ?_ | with_reducible refine Rd.refA ?_ | with_reducible refine Rd.strA ?_ | with_reducible refine Rd.yes ?_ | with_reducible refine Rd.ifT ?_ | with_reducible refine Rd.ifF ?_ | with_reducible refine Rd.ifnT ?_ | with_reducible refine Rd.ifnF ?_ | with_reducible refine Rd.isi_ii ?_ | with_reducible refine Rd.isi_ib ?_ | with_reducible refine Rd.isi_is ?_ | with_reducible refine Rd.isi_il ?_ | with_reducible refine Rd.isi_it ?_ | with_reducible refine Rd.isi_id ?_ | with_reducible refine Rd.isi_bi ?_ | with_reducible refine Rd.isi_bb ?_ | with_reducible refine Rd.isi_bs ?_ | with_reducible refine Rd.isi_bl ?_ | with_reducible refine Rd.isi_bt ?_ | with_reducible refine Rd.isi_bd ?_ | with_reducible refine Rd.isi_si ?_ | with_reducible refine Rd.isi_sb ?_ | with_reducible refine Rd.isi_ss ?_ | with_reducible refine Rd.isi_sl ?_ | with_reducible refine Rd.isi_st ?_ | with_reducible refine Rd.isi_sd ?_ | with_reducible refine Rd.isi_ni ?_ | with_reducible refine Rd.isi_nb ?_ | with_reducible refine Rd.isi_ns ?_ | with_reducible refine Rd.isi_nl ?_ | with_reducible refine Rd.isi_nt ?_ | with_reducible refine Rd.isi_nd ?_ | with_reducible refine Rd.sl ?_ | with_reducible refine Rd.v0 ?_ | with_reducible refine Rd.v1 ?_ | with_reducible refine Rd.v2 ?_ | with_reducible refine Rd.v3 ?_ | with_reducible refine Rd.v4 ?_ | with_reducible refine Rd.v5 ?_ | with_reducible refine Rd.v6 ?_ | with_reducible refine Rd.v7 ?_ | with_reducible refine Rd.v8 ?_ | with_reducible refine Rd.v9 ?_ | with_reducible refine Rd.v10 ?_ | with_reducible refine Rd.v11 ?_ | with_reducible refine Rd.v12 ?_ | with_reducible refine Rd.v13 ?_ | with_reducible refine Rd.v14 ?_ | with_reducible refine Rd.v15 ?_ | with_reducible refine Rd.n0 ?_ | with_reducible refine Rd.n1 ?_ | with_reducible refine Rd.n2 ?_ | with_reducible refine Rd.n3 ?_ | with_reducible refine Rd.n4 ?_ | with_reducible refine Rd.n5 ?_ | with_reducible refine Rd.n6 ?_ | with_reducible refine Rd.n7 ?_ | with_reducible refine Rd.n8 ?_ | with_reducible refine Rd.n9 ?_ | with_reducible refine Rd.n10 ?_ | with_reducible refine Rd.n11 ?_ | with_reducible refine Rd.n12 ?_ | with_reducible refine Rd.n13 ?_ | with_reducible refine Rd.n14 ?_ | with_reducible refine Rd.n15 ?_ | with_reducible refine Rd.g0 ?_ | with_reducible refine Rd.g1 ?_ | with_reducible refine Rd.g2 ?_ | with_reducible refine Rd.g3 ?_ | with_reducible refine Rd.g4 ?_ | with_reducible refine Rd.g5 ?_ | with_reducible refine Rd.g6 ?_ | with_reducible refine Rd.g7 ?_ | with_reducible refine Rd.g8 ?_ | with_reducible refine Rd.g9 ?_ | with_reducible refine Rd.g10 ?_ | with_reducible refine Rd.g11 ?_ | with_reducible refine Rd.g12 ?_ | with_reducible refine Rd.g13 ?_ | with_reducible refine Rd.g14 ?_ | with_reducible refine Rd.g15 ?_ | ((with_reducible apply Rd.glst); (first | assumption | exact upd_same); exact rfl) | ((with_reducible apply Rd.gtP); assumption; assumption) | ((with_reducible apply Rd.revq); first | assumption | exact SqL.of (by assumption)) | ((with_reducible apply Rd.fldI); (first | assumption | exact upd_same); assumption; assumption; (first | assumption | with_unfolding_all rfl)) | ((with_reducible apply Rd.methI); (first | assumption | exact upd_same); (first | assumption | with_unfolding_all rfl)) | ((with_reducible apply Rd.sfldI); (first | assumption | exact upd_same); assumption; assumption; exact Nat.le_of_ble_eq_true rfl) | ((with_reducible apply Rd.maxL); assumption) | ((with_reducible apply Rd.anyL); assumption) | ((with_reducible apply Rd.sumL); assumption) | ((with_reducible refine Rd.izI (by assumption) (by assumption) ?_)) | ((with_reducible refine Rd.eq ?_ ?_); exact rfl) | ((with_reducible refine Rd.ne ?_ ?_); exact rfl) | ((with_reducible refine Rd.szA ?_ ?_); exact Nat.le_of_ble_eq_true rfl) | ((with_reducible refine Rd.I ?_ ?_); first | assumption | decide | exact Or.inr (by decide +kernel) | exact Or.inl (by decide +kernel) | exact ⟨by decide, by decide⟩ | exact ⟨by decide, by decide, by decide⟩ | omega) | ((with_reducible apply Rd.tyL); first | assumption | exact upd_same) | ((with_reducible apply Rd.tyLq); assumption) | ((with_reducible apply Rd.ixL); (first | assumption | exact upd_same); exact rfl) | ((with_reducible apply Rd.ixT); (first | assumption | exact upd_same); exact rfl) | ((with_reducible apply Rd.ixLq); assumption; exact rfl) | ((with_reducible apply Rd.ixTq); assumption; exact rfl) | ((with_reducible apply Rd.gtup); (first | assumption | exact upd_same); exact rfl) | ((with_reducible apply Rd.gtupq); assumption; exact rfl) | ((with_reducible apply Rd.sqAq); assumption) | ((with_reducible apply Rd.stAq); assumption) | ((with_reducible apply Rd.enAq); assumption) | ((with_reducible apply Rd.lenLq); assumption) | ((with_reducible apply Rd.lenTq); assumption) | ((with_reducible apply Rd.sqA); first | assumption | exact upd_same) | ((with_reducible apply Rd.stA); first | assumption | exact upd_same) | ((with_reducible apply Rd.enA); first | assumption | exact upd_same) | ((with_reducible apply Rd.lenL); first | assumption | exact upd_same) | ((with_reducible apply Rd.lenT); first | assumption | exact upd_same) | ((with_reducible refine Rd.nwT ?_ ?_); exact Nat.le_of_ble_eq_true rfl) | ((with_reducible refine Rd.nwL ?_ ?_); exact Nat.le_of_ble_eq_true rfl) | ((with_reducible apply Rd.listOf); assumption) | ((with_reducible apply Rd.listOfq); assumption) | ((with_reducible apply Rd.slo); assumption) | ((with_reducible apply Rd.slq); assumption) | ((with_reducible apply Rd.srtI); assumption) | ((with_reducible apply Rd.srtIo); assumption) | ((with_reducible refine Rd.isi_li (by assumption) ?_)) | ((with_reducible refine Rd.isi_lb (by assumption) ?_)) | ((with_reducible refine Rd.isi_ls (by assumption) ?_)) | ((with_reducible refine Rd.isi_ll (by assumption) ?_)) | ((with_reducible refine Rd.isi_lt (by assumption) ?_)) | ((with_reducible refine Rd.isi_ld (by assumption) ?_)) | ((with_reducible refine Rd.isi_ti (by assumption) ?_)) | ((with_reducible refine Rd.isi_tb (by assumption) ?_)) | ((with_reducible refine Rd.isi_ts (by assumption) ?_)) | ((with_reducible refine Rd.isi_tl (by assumption) ?_)) | ((with_reducible refine Rd.isi_tt (by assumption) ?_)) | ((with_reducible refine Rd.isi_td (by assumption) ?_)))))
theorem dec_str (m : Nat) (h : m < 1000000000000000000) : (Str.ofString (toString ((m : Nat) : Int))).length ≤ 18 := by
  rw [SX.num_S m, SX.S_len]
  exact TL.numL_len (k := 18) (by decide) (by omega)
theorem dec_log (m : Nat) (h : m < 1000000000000000000) : ((m : Int).natAbs).log2 < 1920 := by
  by_cases h0 : m = 0
  · subst h0; decide
  · have z : ((m : Int).natAbs) = m := rfl
    rw [z]
    exact Nat.lt_trans ((Nat.log2_lt h0).mpr (show m < 2 ^ 60 by omega)) (by decide)

/-! ### the law's objects -/
def cellD (q : Str × Int) : PyData := .tuple [.str q.1, .int q.2]
def portD (q : Str × Str) : PyData := .tuple [.str q.1, .str q.2]
def callD (q : Str × Str × Nat) : PyData := .tuple [.str q.1, .str q.2.1, .int (q.2.2 : Int)]
def cellsD (cs : List (Str × Int)) : PyData := .list (cs.map cellD)
def oname (w : Str) (n : Nat) : Str := w ++ Str.ofString (toString ((n : Nat) : Int))
def npars (o : Op) : Nat := match o.pars with | .list l => l.length | _ => 0
def pnames : List Str := ["p", "q"]
def opCells (np : Nat) (fs : List (Str × Int)) (z : Int) : List (Str × Int) := (pnames.take np).map (fun s => (s, 0)) ++ fs ++ [(("t" : Str), (0 : Int)), (("u" : Str), z)]
/-- a list of the heap's own, of data -/
def LstD (K : PySem.W.Frag) (N : Hp) (C : Addr) (ds : List PyData) : Prop := ∃ xs, N C = some (.lst xs) ∧ DpAll K N xs ds
theorem LstD.dp {K : PySem.W.Frag} {N : Hp} {C : Addr} {ds : List PyData} (h : LstD K N C ds) : Dp K N (.ref C) (.list ds) := by
  obtain ⟨xs, a, b⟩ := h
  exact .lst (SqL.of a) b
theorem LstD.same {K : PySem.W.Frag} {N N' : Hp} {C : Addr} {ds : List PyData} (h : LstD K N C ds) (s : Same N N') : LstD K N' C ds := by
  obtain ⟨xs, a, b⟩ := h
  exact ⟨xs, s _ _ a, dps_same s b⟩
structure OpG (cs : List (Str × Str × Nat)) (fs : List (Str × Int)) (k : Nat) (o : Op) : Prop where
  name : o.name = oname "do" k
  ex : ∃ (np : Nat) (z : Int) (r : Option Ex), np ≤ 2 ∧ (z = 0 ∨ z = 2) ∧ o.pars = .list ((pnames.take np).map PyData.str) ∧ o.locs = cellsD [("t", 0), ("u", z)] ∧ BodyW ⟨opCells np fs z, [], [], cs, 1⟩ 1 o.body ∧ o.res = optD (r.map Ex.d) ∧ ∀ e, r = some e → ExW ⟨opCells np fs z, [], [], [], 0⟩ e ∧ e.depth ≤ 2
structure ObG (cs : List (Str × Str × Nat)) (j : Nat) (ob : Ob) : Prop where
  name : ob.name = oname "o" j
  ex : ∃ z : Int, (z = 0 ∨ z = 1 ∨ z = 3) ∧ ob.fields = cellsD [("f", 0), ("g", z)] ∧ ob.ops.length ≤ 2 ∧ 1 ≤ ob.ops.length ∧ ∀ (k : Nat) o, ob.ops[k]? = some o → OpG cs [("f", 0), ("g", z)] k o
inductive ObsG : List Ob → List (Str × Str × Nat) → Prop
  | nil : ObsG [] []
  | cons {obs : List Ob} {cs : List (Str × Str × Nat)} {ob : Ob} : ObsG obs cs → ObG cs obs.length ob → ObsG (ob :: obs) (cs ++ ob.ops.map fun o => (oname "o" obs.length, o.name, npars o))
theorem dps_refs {K : PySem.W.Frag} {N : Hp} {α : Type} (f : α → List PyData) : ∀ {as : List α} {xs : List V}, DpAll K N xs (as.map fun a => .tuple (f a)) → ∃ ts : List Addr, xs = ts.map V.ref ∧ ts.length = as.length ∧ ∀ (i : Nat) t a, ts[i]? = some t → as[i]? = some a → ∃ ys, SqT K N t ys ∧ DpAll K N ys (f a)
  | [], xs, h => ⟨[], dp0 h, rfl, by simp⟩
  | a :: r, xs, h => by
    obtain ⟨v, vs, rfl, h1, h2⟩ := dp1 h
    obtain ⟨t, ys, rfl, h3, h4⟩ := dpT h1
    obtain ⟨ts, rfl, h5, h6⟩ := dps_refs f h2
    refine ⟨t :: ts, rfl, by simp [h5], fun i t' a' g1 g2 => ?_⟩
    cases i with
    | zero => simp at g1 g2; subst g1; subst g2; exact ⟨ys, h3, h4⟩
    | succ i => exact h6 i t' a' (by simpa using g1) (by simpa using g2)
theorem env_of {K : PySem.W.Frag} {N : Hp} {e C V' Po Ca : Addr} {g : Env} {xc xp xa : List V} (he : N e = some (.lst [.ref C, .ref V', .ref Po, .ref Ca, .int g.loops])) (hC : N C = some (.lst xc)) (dC : DpAll K N xc (g.cells.map cellD)) (hV : N V' = some (.lst (g.vars.map V.str)))
    (hP : N Po = some (.lst xp)) (dP : DpAll K N xp (g.ports.map portD)) (hA : N Ca = some (.lst xa)) (dA : DpAll K N xa (g.calls.map callD)) : EnvAt K N e g := by
  obtain ⟨t1, rfl, l1, f1⟩ := dps_refs (fun q : Str × Int => [.str q.1, .int q.2]) dC
  obtain ⟨t2, rfl, l2, f2⟩ := dps_refs (fun q : Str × Str => [.str q.1, .str q.2]) dP
  obtain ⟨t3, rfl, l3, f3⟩ := dps_refs (fun q : Str × Str × Nat => [.str q.1, .str q.2.1, .int (q.2.2 : Int)]) dA
  refine ⟨C, V', Po, Ca, he, ⟨t1, hC, l1, fun i t q a b => ?_⟩, hV, ⟨t2, hP, l2, fun i t q a b => ?_⟩, t3, hA, l3, fun i t q a b => ?_⟩
  · obtain ⟨ys, h1, h2⟩ := f1 i t q a b
    obtain ⟨v0, y0, rfl, d0, h2⟩ := dp1 h2
    obtain ⟨v1, y0, rfl, d1, h2⟩ := dp1 h2
    cases dp0 h2; cases dpS d0; cases dpI d1
    exact h1
  · obtain ⟨ys, h1, h2⟩ := f2 i t q a b
    obtain ⟨v0, y0, rfl, d0, h2⟩ := dp1 h2
    obtain ⟨v1, y0, rfl, d1, h2⟩ := dp1 h2
    cases dp0 h2; cases dpS d0; cases dpS d1
    exact h1
  · obtain ⟨ys, h1, h2⟩ := f3 i t q a b
    obtain ⟨v0, y0, rfl, d0, h2⟩ := dp1 h2
    obtain ⟨v1, y0, rfl, d1, h2⟩ := dp1 h2
    obtain ⟨v2, y0, rfl, d2, h2⟩ := dp1 h2
    cases dp0 h2; cases dpS d0; cases dpS d1; cases dpI d2
    exact h1
theorem obsG_calls {obs : List Ob} {cs : List (Str × Str × Nat)} (h : ObsG obs cs) : cs.length ≤ 2 * obs.length ∧ ∀ q ∈ cs, q.2.2 ≤ 2 := by
  induction h with
  | nil => exact ⟨Nat.le_refl _, by simp⟩
  | @cons obs cs ob h g ih =>
    obtain ⟨z, _, _, l2, _, og⟩ := g.ex
    refine ⟨by simp only [List.length_append, List.length_map, List.length_cons]; omega, fun q m => ?_⟩
    rcases List.mem_append.mp m with m | m
    · exact ih.2 q m
    · obtain ⟨o, mo, rfl⟩ := List.mem_map.mp m
      obtain ⟨k, hk⟩ := List.getElem?_of_mem mo
      obtain ⟨np, z', r, h1, _, h3, _⟩ := (og k o hk).ex
      show npars o ≤ 2
      unfold npars
      rw [h3]
      show ((pnames.take np).map PyData.str).length ≤ 2
      rw [List.length_map, List.length_take]
      omega
theorem opCells_ok {np : Nat} {fs : List (Str × Int)} {z : Int} (hf : fs.length ≤ 10) (h0 : 0 ≤ z) (hn : ∀ q ∈ fs, 0 ≤ q.2) : (opCells np fs z).length ≤ 20 ∧ opCells np fs z ≠ [] ∧ ∀ q ∈ opCells np fs z, 0 ≤ q.2 := by
  unfold opCells
  refine ⟨?_, by simp, fun q m => ?_⟩
  · have : (pnames.take np).length ≤ 2 := by rw [List.length_take]; exact Nat.min_le_right _ _
    simp only [List.length_append, List.length_map, List.length_cons, List.length_nil]
    omega
  · rcases List.mem_append.mp m with m | m
    · rcases List.mem_append.mp m with m | m
      · obtain ⟨s, _, rfl⟩ := List.mem_map.mp m
        exact Int.le_refl _
      · exact hn q m
    · simp only [List.mem_cons, List.mem_nil_iff, or_false] at m
      rcases m with rfl | rfl
      · exact Int.le_refl _
      · exact h0
/-- operations under way -/
structure RowsG (K : PySem.W.Frag) (S : Addr → Prop) (p c R : Addr) (cs : List (Str × Str × Nat)) (fs : List (Str × Int)) (i : Nat) (H H' : Hp) (rs : List V) (ops : List Op) : Prop where
  hR : H' R = some (.lst rs)
  dR : DpAll K (Cut (fun a => S a ∨ a = R) H') rs (ops.map Op.d)
  len : ops.length = i
  ok : ∀ (k : Nat) o, ops[k]? = some o → OpG cs fs k o
  st : StOk H' p c
  kp : ∀ b o, b ≠ p → b ≠ c → b ≠ R → H b = some o → H' b = some o
/-- the heap without the state's places -/
theorem new_only {p c a : Addr} {H : Hp} {x : HO} (h1 : a ≠ p) (h2 : a ≠ c) (h : H a = some x) : New (Only p c H) H a = some x := New.of (Only.off h1 h2) h
theorem cut_only {S : Addr → Prop} {p c : Addr} {H : Hp} (hp : S p) (hc : S c) : Same (Cut S H) (New (Only p c H) H) := fun a x e => by
  obtain ⟨n, e⟩ := Cut.get e
  exact new_only (fun z => n (by rw [z]; exact hp)) (fun z => n (by rw [z]; exact hc)) e
theorem new_cut {S : Addr → Prop} {H H' : Hp} (l : Live S H) : Same (New H H') (Cut S H') := fun a x e => by
  obtain ⟨n, e⟩ := New.get e
  exact Cut.at (l.off n) e
theorem cutK {S : Addr → Prop} {H H' : Hp} {p c : Addr} (hp : S p) (hc : S c) (k : Keep p c H H') : Same (Cut S H) (Cut S H') := Cut.keep fun b x n e => k b x (fun z => n (by rw [z]; exact hp)) (fun z => n (by rw [z]; exact hc)) e
theorem Live.keepS {S : Addr → Prop} {H H' : Hp} {p c : Addr} (l : Live S H) (st : StOk H' p c) (k : Keep p c H H') : Live S H' := fun b m => by
  obtain ⟨ms, sd, _, hp, hc, _⟩ := st
  by_cases e1 : b = p
  · exact ⟨_, by rw [e1]; exact hp⟩
  by_cases e2 : b = c
  · exact ⟨_, by rw [e2]; exact hc⟩
  obtain ⟨x, e⟩ := l b m
  exact ⟨x, k b x e1 e2 e⟩
theorem Here.self {p c : Addr} {H : Hp} (st : StOk H p c) : Here (Only p c H) H H p c := ⟨st, (Only.at st.there.1 st.there.2).1, (Only.at st.there.1 st.there.2).2, st.there.1, st.there.2, Dom.refl H⟩
section
variable {P : Program} {w : World} {K : PySem.W.Frag} {mg : Str → Option Value} {base : Heap}
theorem ok__law_body (T : Top K mg) : FnOk P w K mg base CX0 40 T.a__law_body T.d__law_body ["state", "env", "nested"] (fun vs H Q E => ∃ n, n ≤ 3 ∧ sp__law_body K n vs H Q E) :=
  ⟨fun vs H Q E ⟨n, hn, h⟩ => (both (P := P) (w := w) (base := base) T n (by omega)).2.len vs H Q E h, fun A outer s H args us vs Q E hr e0 hb hv ⟨n, hn, h⟩ => ((both (P := P) (w := w) (base := base) T n (by omega)).2.mono (by omega)).run A outer s H args us vs Q E hr e0 hb hv h⟩
def sp__law_objects (K : PySem.W.Frag) : Sp := fun vs H Q _ => ∃ (S : Addr → Prop) (p c : Addr) (most : Nat), vs = [.ref p, .int most] ∧ StOk H p c ∧ S p ∧ S c ∧ Live S H ∧ most ≤ 4 ∧
  ∀ (M O C : Addr) (obs : List Ob) (cs : List (Str × Str × Nat)) H', H M = none → H' M = some (.lst [.ref O, .ref C]) → ¬ S M → Dp K (Cut S H') (.ref O) (.list (obs.map Ob.d)) → LstD K (Cut S H') C (cs.map callD) → obs.length ≤ most → ObsG obs cs → StOk H' p c → Keep p c H H' → Q (.ref M) H'
theorem ok__law_objects (T : Top K mg) : FnOk P w K mg base CX0 41 T.a__law_objects T.d__law_objects ["state", "most"]  (sp__law_objects K) := by
  refine T.F__law_objects.ok sc__law_objects (fun vs H Q E h => ?_) (fun cdv A outer s H vs Q E hr h => ?_)
  · obtain ⟨_, _, _, _, rfl, _⟩ := h
    rfl
  · obtain ⟨S, p, c, most, rfl, st, hp, hc, lv, m4, q⟩ := h
    refine ⟨_, (pss_cons (ps_set (i := 2) sc__law_objects.nd rfl (by first | exact Or.inl rfl | exact Or.inr rfl) (pe_lst pa_nil))
  (pss_cons (ps_set (i := 3) sc__law_objects.nd rfl (by first | exact Or.inl rfl | exact Or.inr rfl) (pe_lst pa_nil))
  (pss_cons (ps_for PassesOwn.never rfl (pi_range1 (by rfl) T.m_range (pa_cons (pe_call (ok__law_draw T) (hr.mono (by decide)) (by rfl) T.g__law_draw T.F__law_draw.kp T.b__law_draw .nil pass0 (pa_cons (pv 0) (pa_cons (pe_op op_add (pv 1) pe_int) pa_nil))) pa_nil)) (pg_name (i := 4) sc__law_objects.nd rfl (by first | exact Or.inl rfl | exact Or.inr rfl))
  (pss_cons (ps_set (i := 5) sc__law_objects.nd rfl (by first | exact Or.inl rfl | exact Or.inr rfl) (pe_lst (pa_cons (pe_tup (pa_cons pe_str (pa_cons pe_int pa_nil))) (pa_cons (pe_tup (pa_cons pe_str (pa_cons (pe_call (ok__law_pick T) (hr.mono (by decide)) (by rfl) T.g__law_pick T.F__law_pick.kp T.b__law_pick .nil pass0 (pa_cons (pv 0) (pa_cons (pe_lst (pa_cons pe_int (pa_cons pe_int (pa_cons pe_int pa_nil)))) pa_nil))) pa_nil))) pa_nil))))
  (pss_cons (ps_set (i := 6) sc__law_objects.nd rfl (by first | exact Or.inl rfl | exact Or.inr rfl) (pe_lst pa_nil))
  (pss_cons (ps_for PassesOwn.never rfl (pi_range1 (by rfl) T.m_range (pa_cons (pe_op op_add pe_int (pe_call (ok__law_draw T) (hr.mono (by decide)) (by rfl) T.g__law_draw T.F__law_draw.kp T.b__law_draw .nil pass0 (pa_cons (pv 0) (pa_cons pe_int pa_nil)))) pa_nil)) (pg_name (i := 7) sc__law_objects.nd rfl (by first | exact Or.inl rfl | exact Or.inr rfl))
  (pss_cons (ps_set (i := 8) sc__law_objects.nd rfl (by first | exact Or.inl rfl | exact Or.inr rfl) (pe_slice sl_list (pe_lst (pa_cons pe_str (pa_cons pe_str pa_nil))) po_none (po_some (pe_call (ok__law_draw T) (hr.mono (by decide)) (by rfl) T.g__law_draw T.F__law_draw.kp T.b__law_draw .nil pass0 (pa_cons (pv 0) (pa_cons pe_int pa_nil))))))
  (pss_cons (ps_set (i := 9) sc__law_objects.nd rfl (by first | exact Or.inl rfl | exact Or.inr rfl) (pe_lst (pa_cons (pe_tup (pa_cons pe_str (pa_cons pe_int pa_nil))) (pa_cons (pe_tup (pa_cons pe_str (pa_cons (pe_call (ok__law_pick T) (hr.mono (by decide)) (by rfl) T.g__law_pick T.F__law_pick.kp T.b__law_pick .nil pass0 (pa_cons (pv 0) (pa_cons (pe_lst (pa_cons pe_int (pa_cons pe_int pa_nil))) pa_nil))) pa_nil))) pa_nil))))
  (pss_cons (ps_set (i := 10) sc__law_objects.nd rfl (by first | exact Or.inl rfl | exact Or.inr rfl) (pe_op op_catQ (pe_op op_catQ (pe_lc (own := [("name", 11)]) (g := gName 11) (tt := tYes) rfl sc__law_objects.nd (pi_list (pv 8)) (blkOk_by (N := ["state", "most", "things", "calls", "j", "fields", "rows", "k", "params", "own", "cells", "name", "body", "result", "item"]) (sc := defScope s__law_objects) (by decide +kernel)) (fun _ _ _ _ _ => pg_name (i := 11) sc__law_objects.nd rfl (Or.inl rfl)) (fun _ _ _ _ _ => pts_nil) (fun _ _ _ _ _ => (pe_tup (pa_cons (pv 11) (pa_cons pe_int pa_nil))))) (pv 5)) (pv 9)))
  (pss_cons (ps_set (i := 12) sc__law_objects.nd rfl (by first | exact Or.inl rfl | exact Or.inr rfl) (pe_call (ok__law_body T) (hr.mono (by decide)) (by rfl) T.g__law_body T.F__law_body.kp T.b__law_body .nil pass0 (pa_cons (pv 0) (pa_cons (pe_lst (pa_cons (pv 10) (pa_cons (pe_lst pa_nil) (pa_cons (pe_lst pa_nil) (pa_cons (pe_callTy call_list_of (by rfl) T.m_list (by decide +kernel) (pa_cons (pv 3) pa_nil)) (pa_cons pe_int pa_nil)))))) (pa_cons pe_int pa_nil)))))
  (pss_cons (ps_set (i := 13) sc__law_objects.nd rfl (by first | exact Or.inl rfl | exact Or.inr rfl) (pe_call (ok__law_pick T) (hr.mono (by decide)) (by rfl) T.g__law_pick T.F__law_pick.kp T.b__law_pick .nil pass0 (pa_cons (pv 0) (pa_cons (pe_lst (pa_cons pe_non (pa_cons (pe_call (ok__law_expr T) (hr.mono (by decide)) (by rfl) T.g__law_expr T.F__law_expr.kp T.b__law_expr .nil pass0 (pa_cons (pv 0) (pa_cons (pe_lst (pa_cons (pv 10) (pa_cons (pe_lst pa_nil) (pa_cons (pe_lst pa_nil) (pa_cons (pe_lst pa_nil) (pa_cons pe_int pa_nil)))))) (pa_cons pe_int pa_nil)))) pa_nil))) pa_nil))))
  (pss_one (ps_expr (pe_bm PySem.F.plainAttrs_list PySem.F.slot_list_append PySem.F.type_list_append mt_append (pv 6) (pa_cons (pe_tup (pa_cons pe_str (pa_cons (pe_op op_add_str pe_str (pe_callTy call_str_int (by rfl) T.m_str (by decide +kernel) (pa_cons (pv 7) pa_nil))) (pa_cons (pv 8) (pa_cons (pv 9) (pa_cons (pv 12) (pa_cons (pv 13) pa_nil))))))) pa_nil))))))))))
  (pss_cons (ps_set (i := 3) sc__law_objects.nd rfl (by first | exact Or.inl rfl | exact Or.inr rfl) (pe_op op_catQ (pv 3) (pe_lc (own := [("item", 14)]) (g := gName 14) (tt := tYes) rfl sc__law_objects.nd (pi_list (pv 6)) (blkOk_by (N := ["state", "most", "things", "calls", "j", "fields", "rows", "k", "params", "own", "cells", "name", "body", "result", "item"]) (sc := defScope s__law_objects) (by decide +kernel)) (fun _ _ _ _ _ => pg_name (i := 14) sc__law_objects.nd rfl (Or.inl rfl)) (fun _ _ _ _ _ => pts_nil) (fun _ _ _ _ _ => (pe_tup (pa_cons (pe_op op_add_str pe_str (pe_callTy call_str_int (by rfl) T.m_str (by decide +kernel) (pa_cons (pv 4) pa_nil))) (pa_cons (pe_ix (r := rIxT K) ix_tup (pv 14) pe_int (fun _ _ => rfl)) (pa_cons (pe_callB (show CallR _ (Value.builtin "len") (Evl.rLenS K) from call_len_seq) (by rfl) T.m_len PySem.boot_len (pa_cons (pe_ix (r := rIxT K) ix_tup (pv 14) pe_int (fun _ _ => rfl)) pa_nil)) pa_nil))))))))
  (pss_one (ps_set (i := 2) sc__law_objects.nd rfl (by first | exact Or.inl rfl | exact Or.inr rfl) (pe_op op_catQ (pe_lst (pa_cons (pe_tup (pa_cons pe_str (pa_cons (pe_op op_add_str pe_str (pe_callTy call_str_int (by rfl) T.m_str (by decide +kernel) (pa_cons (pv 4) pa_nil))) (pa_cons (pv 5) (pa_cons (pv 6) pa_nil))))) pa_nil)) (pv 2)))))))))
  (pss_one (ps_ret (pe_lst (pa_cons (pv 2) (pa_cons (pv 3) pa_nil)))))))), ?_⟩
    rw [show ∀ a0 a1 : V, L2.start ["state", "most", "things", "calls", "j", "fields", "rows", "k", "params", "own", "cells", "name", "body", "result", "item"] [a0, a1] = [some a0, some a1, none, none, none, none, none, none, none, none, none, none, none, none, none] from fun _ _ => rfl]
    walk_at "my rn"
    intro O0 H1 nO s1 hO
    walk_at "my rn"
    intro C0 H2 nC s2 hC
    walk_at "my rn"
    refine ⟨p, c, _, rfl, st.same (s1.trans s2), by omega, by omega, fun jn H3 j0 j1 st3 k3 => ?_⟩
    have lv2 := (lv.same s1).same s2
    have lv3 := lv2.keepS st3 k3
    have nO0 := lv.off nO
    have nC0 := (lv.same s1).off nC
    have c3 := cutK hp hc k3
    walk_at "my rn"
    refine ⟨by omega, by omega, for_it walk_range (fun j σ H' => ∃ (O C : Addr) (obs : List Ob) (cs : List (Str × Str × Nat)) (y4 y5 y6 y7 y8 y9 y10 y11 y12 y13 y14 : Option V), σ = [some (.ref p), some (.int (most : Int)), some (.ref O), some (.ref C), y4, y5, y6, y7, y8, y9, y10, y11, y12, y13, y14] ∧
      Dp K (Cut S H') (.ref O) (.list (obs.map Ob.d)) ∧ LstD K (Cut S H') C (cs.map callD) ∧ obs.length = j ∧ ObsG obs cs ∧ StOk H' p c ∧ Keep p c H H')
      ⟨O0, C0, [], [], none, none, none, none, none, none, none, none, none, none, none, rfl, .lst (SqL.of (c3 _ _ (Cut.at nO0 (s2 _ _ hO)))) .nil, ⟨[], c3 _ _ (Cut.at nC0 hC), .nil⟩, rfl, .nil, st3, (Keep.same (s1.trans s2)).trans k3⟩ (fun _ _ _ _ _ => trivial) ?_ ?_⟩
    · rintro j x σ H4o H4 hj ⟨O, C, obs, cs, y4, y5, y6, y7, y8, y9, y10, y11, y12, y13, y14, rfl, dO, dC, lo, og, st4, k4⟩ yy
      obtain ⟨rfl, e3⟩ := Rd.zr yy
      subst e3
      have lv4 := lv.keepS st4 k4
      walk_at "my rn"
      intro t1 H5 n5 s5 h5
      walk_at "my rn"
      intro l1 H6 n6 s6 h6
      have st6 := st4.same (s5.trans s6)
      have lv6 := (lv4.same s5).same s6
      have o1 := lv4.off n5
      have ol1 := (lv4.same s5).off n6
      walk_at "my rn"
      refine ⟨p, c, l1, _, rfl, st6, h6, by simp, by show 3 ≤ 100000; decide, fun z => ol1 (by rw [z]; exact hp), fun z => ol1 (by rw [z]; exact hc), fun y my H7 st7 k7 => ?_⟩
      obtain ⟨z, rfl, hz⟩ : ∃ z : Int, y = .int z ∧ (z = 0 ∨ z = 1 ∨ z = 3) := by
        simp only [List.mem_cons, List.mem_nil_iff, or_false] at my
        rcases my with rfl | rfl | rfl
        · exact ⟨0, rfl, .inl rfl⟩
        · exact ⟨1, rfl, .inr (.inl rfl)⟩
        · exact ⟨3, rfl, .inr (.inr rfl)⟩
      have lv7 := lv6.keepS st7 k7
      walk_at "my rn"
      intro t2 H8 n8 s8 h8
      have o2 := lv7.off n8
      walk_at "my rn"
      intro F H9 n9 s9 h9
      have oF := (lv7.same s8).off n9
      walk_at "my rn"
      intro R Ha na sa hRa
      have lv9 := (lv7.same s8).same s9
      have oR := lv9.off na
      have c57 : Same (Cut S H5) (Cut S H7) := (Cut.same s6).trans (cutK hp hc k7)
      have dF : Dp K (Cut S Ha) (.ref F) (cellsD [("f", 0), ("g", z)]) := .lst (SqL.of (Cut.at oF (sa _ _ h9))) (.cons (.tup (SqT.of ((c57.trans (Cut.same (s8.trans (s9.trans sa)))) _ _ (Cut.at o1 h5))) (.cons (.str _) (.cons (.int _) .nil))) (.cons (.tup (SqT.of (Cut.at o2 ((s9.trans sa) _ _ h8))) (.cons (.str _) (.cons (.int _) .nil))) .nil))
      have k4a : Keep p c H4 Ha := (Keep.same (s5.trans s6)).trans (k7.trans (Keep.same (s8.trans (s9.trans sa))))
      have sta := st7.same (s8.trans (s9.trans sa))
      walk_at "my rn"
      refine ⟨p, c, 2, rfl, sta, by decide, by decide, fun kn Hb b0 b1 stb kb => ?_⟩
      walk_at "my rn"
      obtain ⟨fs, efs⟩ : ∃ fs : List (Str × Int), fs = [(("f" : Str), (0 : Int)), (("g" : Str), z)] := ⟨_, rfl⟩
      rw [← efs] at dF
      have hRb := kb _ _ (fun z => oR (by rw [z]; exact hp)) (fun z => oR (by rw [z]; exact hc)) hRa
      have pR : R ≠ p ∧ R ≠ c := ⟨fun z => oR (by rw [z]; exact hp), fun z => oR (by rw [z]; exact hc)⟩
      have k4b := k4a.trans kb
      have nR4 : H4 R = none := ((Keep.same (p := p) (c := c) (s5.trans s6)).trans (k7.trans (Keep.same (s8.trans s9)))).free (st7.same (s8.trans s9)) na
      have lvb := (((lv9.same sa).keepS stb kb)).or hRb
      have SRp : (fun a => S a ∨ a = R) p := .inl hp
      have SRc : (fun a => S a ∨ a = R) c := .inl hc
      have toR : ∀ {v : V} {d : PyData}, Dp K (Cut S H4) v d → Dp K (Cut (fun a => S a ∨ a = R) Hb) v d := fun h => dp_same (fun a x e => by
        obtain ⟨n, e⟩ := Cut.get e
        refine Cut.at (fun z => z.elim n (fun z => by rw [z, nR4] at e; cases e)) (k4b a x (fun z => n (by rw [z]; exact hp)) (fun z => n (by rw [z]; exact hc)) e)) h
      have dOb := toR dO
      have dCb := toR dC.dp
      have dFb : Dp K (Cut (fun a => S a ∨ a = R) Hb) (.ref F) (cellsD fs) := by
        have h9' : Dp K (Cut S H9) (.ref F) (cellsD fs) := by
          rw [efs]
          exact .lst (SqL.of (Cut.at oF h9)) (.cons (.tup (SqT.of ((c57.trans (Cut.same (s8.trans s9))) _ _ (Cut.at o1 h5))) (.cons (.str _) (.cons (.int _) .nil))) (.cons (.tup (SqT.of (Cut.at o2 (s9 _ _ h8))) (.cons (.str _) (.cons (.int _) .nil))) .nil))
        exact dp_same ((Cut.free sa na).trans (cutK (S := fun a => S a ∨ a = R) SRp SRc kb)) h9'
      have lcs := obsG_calls og
      refine ⟨by omega, by omega, ?_⟩
      rw [show ((1 + kn)).toNat = kn.toNat + 1 from by omega]
      refine for_it walk_range (fun i σ H' => ∃ (rs : List V) (ops : List Op) (y7 y8 y9 y10 y11 y12 y13 : Option V), σ = [some (.ref p), some (.int (most : Int)), some (.ref O), some (.ref C), some (.int (j : Int)), some (.ref F), some (.ref R), y7, y8, y9, y10, y11, y12, y13, y14] ∧
        RowsG K S p c R cs fs i Hb H' rs ops) ⟨[], [], _, _, _, _, _, _, _, rfl, hRb, .nil, rfl, by simp, stb, fun _ _ _ _ _ e => e⟩ (fun _ _ _ _ _ => trivial) ?_ ?_
      · rintro i x σ Hco Hc hi ⟨rs, ops, y7, y8, y9, y10, y11, y12, y13, rfl, rg⟩ yy
        obtain ⟨rfl, e3⟩ := Rd.zr yy
        subst e3
        have lvc : Live (fun a => S a ∨ a = R) Hc := fun a m => by
          by_cases z : a = R
          · exact ⟨_, by rw [z]; exact rg.hR⟩
          by_cases z1 : a = p
          · rw [z1]; exact rg.st.there.1
          by_cases z2 : a = c
          · rw [z2]; exact rg.st.there.2
          obtain ⟨x, e⟩ := lvb a m
          exact ⟨x, rg.kp a x z1 z2 z e⟩
        have cbc : Same (Cut (fun a => S a ∨ a = R) Hb) (Cut (fun a => S a ∨ a = R) Hc) := Cut.keep fun b o n e => rg.kp b o (fun z => n (by rw [z]; exact SRp)) (fun z => n (by rw [z]; exact SRc)) (fun z => n (.inr z)) e
        have i2 : i < 2 := by omega
        have lrs : rs.length = ops.length := by rw [dps_len rg.dR, List.length_map]
        have lops := rg.len
        walk_at "my rn"
        intro Lp H11 n11 s11 h11
        walk_at "my rn"
        refine ⟨p, c, 3, rfl, rg.st.same s11, by decide, by decide, fun u H12 u0 u1 st12 k12 => ?_⟩
        obtain ⟨np, rfl⟩ : ∃ n : Nat, u = (n : Int) := ⟨u.toNat, by omega⟩
        have lv11 := lvc.same s11
        have oLp := lvc.off n11
        have hLp := k12 _ _ (fun z => oLp (by rw [z]; exact SRp)) (fun z => oLp (by rw [z]; exact SRc)) h11
        have lv12 := lv11.keepS st12 k12
        walk_at "my rn"
        intro Pa H13 n13 s13 h13
        rw [Rd.cut_to] at h13
        have oPa := lv12.off n13
        walk_at "my rn"
        intro t3 H14 n14 s14 h14
        walk_at "my rn"
        intro l3 H15 n15 s15 h15
        have lv13 := lv12.same s13
        have lv14 := lv13.same s14
        have o3 := lv13.off n14
        have ol3 := lv14.off n15
        have st15 := st12.same (s13.trans (s14.trans s15))
        walk_at "my rn"
        refine ⟨p, c, l3, _, rfl, st15, h15, by simp, by show 2 ≤ 100000; decide, fun z => ol3 (by rw [z]; exact SRp), fun z => ol3 (by rw [z]; exact SRc), fun y my H16 st16 k16 => ?_⟩
        obtain ⟨zu, rfl, hzu⟩ : ∃ z : Int, y = .int z ∧ (z = 0 ∨ z = 2) := by
          simp only [List.mem_cons, List.mem_nil_iff, or_false] at my
          rcases my with rfl | rfl
          · exact ⟨0, rfl, .inl rfl⟩
          · exact ⟨2, rfl, .inr rfl⟩
        have lv16 := (lv14.same s15).keepS st16 k16
        walk_at "my rn"
        intro t4 H17 n17 s17 h17
        have o4 := lv16.off n17
        walk_at "my rn"
        intro Ow H18 n18 s18 h18
        have lv17 := lv16.same s17
        have oOw := lv17.off n18
        have lv18 := lv17.same s18
        have st18 := st16.same (s17.trans s18)
        have cK16 := cutK (S := fun a => S a ∨ a = R) SRp SRc k16
        have c14 : Same (Cut (fun a => S a ∨ a = R) H14) (Cut (fun a => S a ∨ a = R) H18) := (Cut.same s15).trans (cK16.trans (Cut.same (s17.trans s18)))
        have cc18 : Same (Cut (fun a => S a ∨ a = R) Hc) (Cut (fun a => S a ∨ a = R) H18) := (Cut.same s11).trans ((cutK (S := fun a => S a ∨ a = R) SRp SRc k12).trans ((Cut.same (s13.trans s14)).trans c14))
        have dPa : Dp K (Cut (fun a => S a ∨ a = R) H18) (.ref Pa) (.list ((pnames.take np).map PyData.str)) := dp_same ((Cut.same s14).trans c14) (.lst (SqL.of (Cut.at oPa h13)) (by
          have : ([V.str "p", V.str "q"] : List V).take np = (pnames.take np).map V.str := by rw [List.map_take]; rfl
          rw [this]
          exact dps_of (by simp) fun i v d g1 g2 => by
            rw [List.getElem?_map] at g1 g2
            cases z : (pnames.take np)[i]? with
            | none => rw [z] at g1; cases g1
            | some s => rw [z] at g1 g2; cases g1; cases g2; exact .str _))
        have dOw : Dp K (Cut (fun a => S a ∨ a = R) H18) (.ref Ow) (cellsD [("t", 0), ("u", zu)]) := .lst (SqL.of (Cut.at oOw h18)) (.cons (.tup (SqT.of (c14 _ _ (Cut.at o3 h14))) (.cons (.str _) (.cons (.int _) .nil))) (.cons (.tup (SqT.of (Cut.at o4 (s18 _ _ h17))) (.cons (.str _) (.cons (.int _) .nil))) .nil))
        have dF18 := dp_same (cbc.trans cc18) dFb
        have dC18 := dp_same (cbc.trans cc18) dCb
        obtain ⟨_, pxs, ep, hps, dps⟩ := dpL dPa
        cases ep
        have hps' := Cut.sub.seq hps
        have lpx : pxs.length = (pnames.take np).length := by rw [dps_len dps, List.length_map]
        have lpn : (pnames.take np).length ≤ 2 := by rw [List.length_take]; exact Nat.min_le_right _ _
        walk_at "my rn"
        intro D nD
        refine Rd.lc_rel (walk_list (xs := pxs)) (fun i v H' => ∃ nm, (pnames.take np)[i]? = some nm ∧ Dp K (Cut (fun a => (S a ∨ a = R) ∨ a = D) H') v (cellD (nm, 0))) nD (by omega) (fun i v Hx Hy h b => ?_) (fun Hx b => (b.to nD).seq hps') (fun i' x Hxo Hx Kt hi' b hDl y kt => ?_) (fun H19 cxs lcx hcx s19 hD => ?_)
        · obtain ⟨nm, e, h⟩ := h
          exact ⟨nm, e, dp_same (Cut.keep fun b' x n e => b b' x (fun z => n (.inr z)) e) h⟩
        · obtain ⟨rfl, hx⟩ := y
          obtain ⟨d, hd, dd⟩ := dp_at' dps hx
          rw [List.getElem?_map] at hd
          obtain ⟨nm, hnm, rfl⟩ : ∃ nm, (pnames.take np)[i']? = some nm ∧ PyData.str nm = d := by
            cases z : (pnames.take np)[i']? with
            | none => rw [z] at hd; cases hd
            | some nm => rw [z] at hd; exact ⟨nm, rfl, Option.some.inj hd⟩
          cases dpS dd
          simp only [List.map_cons, List.map_nil, L2.wipe, List.set_cons_succ, List.set_cons_zero]
          walk_at "my rn"
          refine ⟨rfl, ?_⟩
          walk_at "my rn"
          intro tn Hy ny sy hy
          have lvx := lv18.but nD b (by obtain ⟨xs, h⟩ := hDl; exact ⟨_, h⟩)
          exact kt _ _ ⟨nm, hnm, .tup (SqT.of (Cut.at (lvx.off ny) hy)) (.cons (.str _) (.cons (.int _) .nil))⟩ sy
        · have c19 := Cut.same (S := fun a => S a ∨ a = R) s19
          have dcx : DpAll K (Cut (fun a => S a ∨ a = R) H19) cxs (((pnames.take np).map fun s => (s, (0 : Int))).map cellD) := dps_of (by rw [lcx, lpx]; simp) fun i v d g1 g2 => by
            obtain ⟨nm, e, h⟩ := hcx i v g1
            rw [List.map_map, List.getElem?_map, e] at g2
            cases g2
            exact dp_same (Cut.mono fun a m => .inl m) h
          have dF19 := dp_same c19 dF18
          obtain ⟨_, fxs, ef, hfs, dfs⟩ := dpL dF19
          cases ef
          have lfx : fxs.length = 2 := by rw [dps_len dfs, List.length_map, efs]; rfl
          walk_at "my rn"
          refine Rd.catQ (SqL.of hD) (Cut.sub.seq hfs) (by omega) fun D2 H20 n20 s20 h20 => ?_
          have dOw20 := dp_same (c19.trans (Cut.same s20)) dOw
          obtain ⟨_, oxs, eo, hos, dos⟩ := dpL dOw20
          cases eo
          have lox : oxs.length = 2 := by rw [dps_len dos, List.length_map]; rfl
          walk_at "my rn"
          refine Rd.catQ (SqL.of h20) (Cut.sub.seq hos) (by rw [List.length_append]; omega) fun Ce H21 n21 s21 h21 => ?_
          have lv19 := lv18.same s19
          have lv20 := lv19.same s20
          have oCe := lv20.off n21
          have dce : DpAll K (Cut (fun a => S a ∨ a = R) H21) (cxs ++ fxs ++ oxs) ((opCells np fs zu).map cellD) := by
            unfold opCells
            rw [List.map_append, List.map_append]
            exact dps_app (dps_app (dps_same (Cut.same (s20.trans s21)) dcx) (dps_same (Cut.same (s20.trans s21)) dfs)) (dps_same (Cut.same s21) dos)
          have lv21 := lv20.same s21
          have c1821 : Same (Cut (fun a => S a ∨ a = R) H18) (Cut (fun a => S a ∨ a = R) H21) := c19.trans (Cut.same (s20.trans s21))
          have dC21 := dp_same c1821 dC18
          have st21 := st18.same (s19.trans (s20.trans s21))
          obtain ⟨_, ca, ec, hcs, dcs⟩ := dpL dC21
          cases ec
          have lca : ca.length = cs.length := by rw [dps_len dcs, List.length_map]
          have zu0 : 0 ≤ zu := by rcases hzu with rfl | rfl <;> decide
          have fs0 : ∀ q ∈ fs, 0 ≤ q.2 := by
            rw [efs]
            intro q m
            simp only [List.mem_cons, List.mem_nil_iff, or_false] at m
            rcases m with rfl | rfl
            · exact Int.le_refl _
            · show 0 ≤ z; rcases hz with rfl | rfl | rfl <;> decide
          have lfs : fs.length ≤ 10 := by rw [efs]; show 2 ≤ 10; decide
          obtain ⟨oc1, oc2, oc3⟩ := opCells_ok (np := np) lfs zu0 fs0
          walk_at "my rn"
          intro e1 H22 n22 s22 h22
          walk_at "my rn"
          intro e2 H23 n23 s23 h23
          have hC23 : SqL K H23 C ca := (s22.trans s23).seq (Cut.sub.seq hcs)
          walk_at "my rn"
          intro e3 H24 n24 s24 h24
          walk_at "my rn"
          intro e H25 n25 s25 h25
          have lv22 := lv21.same s22
          have lv23 := lv22.same s23
          have lv24 := lv23.same s24
          have lv25 := lv24.same s25
          have s2125 := s22.trans (s23.trans (s24.trans s25))
          have cN := cut_only (S := fun a => S a ∨ a = R) (H := H25) SRp SRc
          have st25 := st21.same s2125
          have envB : EnvAt K (New (Only p c H25) H25) e ⟨opCells np fs zu, [], [], cs, 1⟩ := env_of (cN _ _ (Cut.at (lv24.off n25) h25)) (cN _ _ (Cut.at oCe (s2125 _ _ h21))) (dps_same ((Cut.same s2125).trans cN) dce) (cN _ _ (Cut.at (lv21.off n22) ((s23.trans (s24.trans s25)) _ _ h22))) (cN _ _ (Cut.at (lv22.off n23) ((s24.trans s25) _ _ h23))) .nil (cN _ _ (Cut.at (lv23.off n24) (s25 _ _ h24))) (dps_same ((Cut.same s2125).trans cN) dcs)
          refine ⟨1, by decide, Only p c H25, H25, p, c, e, ⟨opCells np fs zu, [], [], cs, 1⟩, rfl, Here.self st25, envB, ⟨⟨by show (opCells np fs zu).length ≤ 100; omega, by show 0 ≤ 100; decide, by show 0 ≤ 100; decide, by show cs.length ≤ 100; omega⟩, by show 0 + 1 ≤ 90; decide, oc2, oc3, fun q m => (by cases m), fun q m => Nat.le_trans (lcs.2 q m) (by decide)⟩, fun vb b H26 db bw st26 k26 => ?_⟩
          have lv26 := lv25.keepS st26 k26
          have db26 := dp_same (new_cut lv25) db
          have c2126 := (Cut.same (S := fun a => S a ∨ a = R) s2125).trans (cutK SRp SRc k26)
          walk_at "my rn"
          intro f1 H27 n27 s27 h27
          walk_at "my rn"
          intro f2 H28 n28 s28 h28
          walk_at "my rn"
          intro f3 H29 n29 s29 h29
          walk_at "my rn"
          intro fe H30 n30 s30 h30
          have lv27 := lv26.same s27
          have lv28 := lv27.same s28
          have lv29 := lv28.same s29
          have lv30 := lv29.same s30
          have s2630 := s27.trans (s28.trans (s29.trans s30))
          have cN2 := cut_only (S := fun a => S a ∨ a = R) (H := H30) SRp SRc
          have st30 := st26.same s2630
          have c2130 := c2126.trans (Cut.same s2630)
          have envE : EnvAt K (New (Only p c H30) H30) fe ⟨opCells np fs zu, [], [], [], 0⟩ := env_of (cN2 _ _ (Cut.at (lv29.off n30) h30)) (cN2 _ _ (c2130 _ _ (Cut.at oCe h21))) (dps_same (c2130.trans cN2) dce) (cN2 _ _ (Cut.at (lv26.off n27) ((s28.trans (s29.trans s30)) _ _ h27))) (cN2 _ _ (Cut.at (lv27.off n28) ((s29.trans s30) _ _ h28))) .nil (cN2 _ _ (Cut.at (lv28.off n29) (s30 _ _ h29))) .nil
          refine ⟨Only p c H30, H30, p, c, fe, ⟨opCells np fs zu, [], [], [], 0⟩, 2, rfl, Here.self st30, envE, ⟨by show (opCells np fs zu).length ≤ 100; omega, by show 0 ≤ 100; decide, by show 0 ≤ 100; decide, by show 0 ≤ 100; decide⟩, by decide, fun v2 xe H31 d2 ew ed st31 k31 => ?_⟩
          have lv31 := lv30.keepS st31 k31
          have d231 := dp_same (new_cut lv30) d2
          walk_at "my rn"
          intro Lr H32 n32 s32 h32
          have lv32 := lv31.same s32
          have oLr := lv31.off n32
          walk_at "my rn"
          refine ⟨p, c, Lr, _, rfl, st31.same s32, h32, by simp, by show 2 ≤ 100000; decide, fun z => oLr (by rw [z]; exact SRp), fun z => oLr (by rw [z]; exact SRc), fun yr myr H33 st33 k33 => ?_⟩
          have lv33 := lv32.keepS st33 k33
          have c3133 : Same (Cut (fun a => S a ∨ a = R) H31) (Cut (fun a => S a ∨ a = R) H33) := (Cut.same s32).trans (cutK SRp SRc k33)
          have c3033 : Same (Cut (fun a => S a ∨ a = R) H30) (Cut (fun a => S a ∨ a = R) H33) := (cutK SRp SRc k31).trans c3133
          have c2133 := c2130.trans c3033
          obtain ⟨ro, hro, hrw⟩ : ∃ r : Option Ex, Dp K (Cut (fun a => S a ∨ a = R) H33) yr (optD (r.map Ex.d)) ∧ ∀ e, r = some e → ExW ⟨opCells np fs zu, [], [], [], 0⟩ e ∧ e.depth ≤ 2 := by
            simp only [List.mem_cons, List.mem_nil_iff, or_false] at myr
            rcases myr with rfl | rfl
            · exact ⟨none, .non, by simp⟩
            · have m2 : max (1 : Int) 2 = 2 := by decide
              have ed2 : xe.depth ≤ 2 := by omega
              exact ⟨some xe, dp_same c3133 d231, fun e h => by cases h; exact ⟨ew, ed2⟩⟩
          have kc18 : Keep p c Hc H18 := (Keep.same s11).trans (k12.trans ((Keep.same (s13.trans (s14.trans s15))).trans (k16.trans (Keep.same (s17.trans s18)))))
          have kc33 : Keep p c Hc H33 := kc18.trans ((Keep.same (s19.trans (s20.trans s21))).trans ((Keep.same s2125).trans (k26.trans ((Keep.same s2630).trans (k31.trans ((Keep.same s32).trans k33))))))
          have hR33 := kc33 _ _ pR.1 pR.2 rg.hR
          have li2 : (Str.ofString (toString ((i : Nat) : Int))).length ≤ 18 := dec_str i (by omega)
          walk_at "my rn"
          refine ⟨dec_log i (by omega), _, _, rfl, rfl, Rd.sz (by show 2 + _ ≤ _; omega), ?_⟩
          walk_at "my rn"
          intro tp H34 ntp s34 htp
          have hR34 := s34 _ _ hR33
          have otp := lv33.off ntp
          walk_at "my rn"
          refine Rd.app hR34 (Rd.szl (by omega)) ?_
          have cf : Same (Cut (fun a => S a ∨ a = R) H34) (Cut (fun a => S a ∨ a = R) (upd H34 R (.lst (rs ++ [.ref tp])))) := Cut.upd (S := fun a => S a ∨ a = R) (.inr rfl)
          have c34f := (Cut.same (S := fun a => S a ∨ a = R) s34).trans cf
          have c33c : Same (Cut (fun a => S a ∨ a = R) Hc) (Cut (fun a => S a ∨ a = R) H33) := cutK SRp SRc kc33
          refine ⟨rs ++ [.ref tp], ops ++ [⟨oname "do" i, .list ((pnames.take np).map PyData.str), cellsD [("t", 0), ("u", zu)], b, optD (ro.map Ex.d)⟩], _, _, _, _, _, _, _, rfl, upd_same, ?_, by rw [List.length_append, lops]; rfl, fun k o g => ?_, (st33.same s34).upd pR.1 pR.2, fun b' o n1 n2 n3 e => ?_⟩
          · rw [List.map_append]
            refine dps_app (dps_same (c33c.trans c34f) rg.dR) (.cons (.tup (SqT.of (cf _ _ (Cut.at otp htp))) (.cons (.str _) (.cons (.str _) (.cons (dp_same (c1821.trans (c2133.trans c34f)) dPa) (.cons (dp_same (c1821.trans (c2133.trans c34f)) dOw) (.cons (dp_same (((Cut.same s2630).trans c3033).trans c34f) db26) (.cons (dp_same c34f hro) .nil))))))) .nil)
          · by_cases hk : k < ops.length
            · rw [List.getElem?_append_left hk] at g
              exact rg.ok k o g
            · have hk2 := (List.getElem?_eq_some_iff.mp g).1
              simp at hk2
              have ek : k = i := by omega
              rw [ek, List.getElem?_append_right (by omega), lops, Nat.sub_self] at g
              have g := Option.some.inj g
              subst g
              rw [ek]
              exact ⟨rfl, np, zu, ro, by omega, hzu, rfl, rfl, bw, rfl, hrw⟩
          · rw [upd_ne n3]
            exact s34 _ _ (kc33 b' o n1 n2 (rg.kp b' o n1 n2 n3 e))
      · rintro σ Hc ⟨rs, ops, y7, y8, y9, y10, y11, y12, y13, rfl, rg⟩
        have lvc : Live (fun a => S a ∨ a = R) Hc := fun a m => by
          by_cases z : a = R
          · exact ⟨_, by rw [z]; exact rg.hR⟩
          by_cases z1 : a = p
          · rw [z1]; exact rg.st.there.1
          by_cases z2 : a = c
          · rw [z2]; exact rg.st.there.2
          obtain ⟨x, e⟩ := lvb a m
          exact ⟨x, rg.kp a x z1 z2 z e⟩
        have lvS : Live S Hc := fun a m => lvc a (.inl m)
        have cbc : Same (Cut (fun a => S a ∨ a = R) Hb) (Cut (fun a => S a ∨ a = R) Hc) := Cut.keep fun b o n e => rg.kp b o (fun z => n (by rw [z]; exact SRp)) (fun z => n (by rw [z]; exact SRc)) (fun z => n (.inr z)) e
        have mS : Same (Cut (fun a => S a ∨ a = R) Hc) (Cut S Hc) := Cut.mono fun a m => .inl m
        have lrs : rs.length = ops.length := by rw [dps_len rg.dR, List.length_map]
        have lops := rg.len
        have hRc := rg.hR
        have dRS := dps_same mS rg.dR
        have dCc := dp_same (cbc.trans mS) dCb
        obtain ⟨_, ca, ec, hcs, dcs⟩ := dpL dCc
        cases ec
        have lca : ca.length = cs.length := by rw [dps_len dcs, List.length_map]
        have lj2 : (Str.ofString (toString ((j : Nat) : Int))).length ≤ 18 := dec_str j (by omega)
        walk_at "my rn"
        intro D nD
        refine Rd.lc_rel (walk_list (xs := rs)) (fun i v H' => ∃ o, ops[i]? = some o ∧ Dp K (Cut (fun a => S a ∨ a = D) H') v (callD (oname "o" j, o.name, npars o))) nD (by omega) (fun i v Hx Hy h b => ?_) (fun Hx b => (b.to nD).seq (SqL.of hRc)) (fun i' x Hxo Hx Kt hi' b hDl y kt => ?_) (fun H19 cxs lcx hcx s19 hD => ?_)
        · obtain ⟨nm, e, h⟩ := h
          exact ⟨nm, e, dp_same (Cut.keep fun b' x n e => b b' x (fun z => n (.inr z)) e) h⟩
        · obtain ⟨rfl, hx⟩ := y
          obtain ⟨d, hd, dd⟩ := dp_at' dRS hx
          rw [List.getElem?_map] at hd
          obtain ⟨o, ho, rfl⟩ : ∃ o, ops[i']? = some o ∧ o.d = d := by
            cases z : ops[i']? with
            | none => rw [z] at hd; cases hd
            | some nm => rw [z] at hd; exact ⟨nm, rfl, Option.some.inj hd⟩
          obtain ⟨np, zu, ro, np2, _, epars, _⟩ := (rg.ok _ _ ho).ex
          have enp : npars o = (pnames.take np).length := by unfold npars; rw [epars]; show ((pnames.take np).map PyData.str).length = _; rw [List.length_map]
          obtain ⟨t5, xs, rfl, hx5, a5⟩ := dpT (dp_same (b.to nD |> fun s => Cut.same (S := S) s) dd)
          obtain ⟨u0, g0, rfl, _, a6⟩ := dp1 a5
          obtain ⟨u1, g0, rfl, d1, a7⟩ := dp1 a6
          obtain ⟨u2, g0, rfl, d2, a8⟩ := dp1 a7
          obtain ⟨u3, g0, rfl, _, a9⟩ := dp1 a8
          obtain ⟨u4, g0, rfl, _, a10⟩ := dp1 a9
          obtain ⟨u5, g0, rfl, _, a11⟩ := dp1 a10
          cases dp0 a11
          cases dpS d1
          rw [epars] at d2
          obtain ⟨pa, pxs, rfl, hpa, dpa⟩ := dpL d2
          have lpa : pxs.length = npars o := by rw [dps_len dpa, List.length_map, enp]
          have hx5' := Same.seqT Cut.sub hx5
          have hpa' := Cut.sub.seq hpa
          simp only [List.map_cons, List.map_nil, L2.wipe, List.set_cons_succ, List.set_cons_zero]
          walk_at "my rn"
          refine ⟨rfl, ?_⟩
          walk_at "my rn"
          refine ⟨dec_log j (by omega), _, _, rfl, rfl, Rd.sz (by show 1 + _ ≤ _; omega), ?_⟩
          walk_at "my rn"
          refine ⟨pa, pxs, rfl, .inl hpa', ?_⟩
          walk_at "my rn"
          intro tn Hy ny sy hy
          rw [lpa] at hy
          have lvx := lvS.but nD b (by obtain ⟨xs, h⟩ := hDl; exact ⟨_, h⟩)
          exact kt _ _ ⟨o, ho, .tup (SqT.of (Cut.at (lvx.off ny) hy)) (.cons (.str _) (.cons (.str _) (.cons (.int _) .nil)))⟩ sy
        · have c19 := Cut.same (S := S) s19
          have hC19 := Cut.sub.seq (c19.seq hcs)
          walk_at "my rn"
          refine Rd.catQ hC19 (SqL.of hD) (by omega) fun C2 H20 n20 s20 h20 => ?_
          have lv20 := (lvS.same s19)
          have oC2 := lv20.off n20
          have dC2 : LstD K (Cut S H20) C2 ((cs ++ ops.map fun o => (oname "o" j, o.name, npars o)).map callD) := ⟨_, Cut.at oC2 h20, (by
            rw [List.map_append]
            refine dps_app (dps_same (c19.trans (Cut.same s20)) dcs) (dps_of (by rw [lcx, lrs]; simp) fun i v d g1 g2 => ?_)
            obtain ⟨o, e, h⟩ := hcx i v g1
            rw [List.map_map, List.getElem?_map, e] at g2
            cases g2
            exact dp_same ((Cut.mono fun a m => .inl m).trans (Cut.same s20)) h)⟩
          walk_at "my rn"
          refine ⟨dec_log j (by omega), _, _, rfl, rfl, Rd.sz (by show 1 + _ ≤ _; omega), ?_⟩
          walk_at "my rn"
          intro tp H21 n21 s21 h21
          walk_at "my rn"
          intro L1 H22 n22 s22 h22
          have s1922 := s19.trans (s20.trans (s21.trans s22))
          have dO22 := dp_same ((cbc.trans mS).trans (Cut.same s1922)) dOb
          obtain ⟨_, oxs, eo, hos, dos⟩ := dpL dO22
          cases eo
          have lox : oxs.length = obs.length := by rw [dps_len dos, List.length_map]
          walk_at "my rn"
          refine Rd.catQ (SqL.of h22) (Cut.sub.seq hos) (by show 1 + _ ≤ _; omega) fun O2 H23 n23 s23 h23 => ?_
          have lv21 := lv20.same s20
          have lv22 := lv21.same s21
          have lv23 := lv22.same s22
          have oR2 : ¬ S R := oR
          have dFc := dp_same ((cbc.trans mS).trans (Cut.same (s1922.trans s23))) dFb
          have dob : Dp K (Cut S H23) (.ref tp) (Ob.d ⟨oname "o" j, cellsD fs, ops⟩) := .tup (SqT.of (Cut.at (lv21.off n21) ((s22.trans s23) _ _ h21))) (.cons (.str _) (.cons (.str _) (.cons dFc (.cons (.lst (SqL.of (Cut.at oR2 ((s1922.trans s23) _ _ hRc))) (dps_same (Cut.same (s1922.trans s23)) dRS)) .nil))))
          have kfin : Keep p c H H23 := fun b o n1 n2 e => (s1922.trans s23) _ _ (rg.kp b o n1 n2 (fun z => by
            have := k4 b o n1 n2 e
            rw [z, nR4] at this; cases this) (k4b b o n1 n2 (k4 b o n1 n2 e)))
          refine ⟨O2, C2, ⟨oname "o" j, cellsD fs, ops⟩ :: obs, cs ++ ops.map (fun o => (oname "o" j, o.name, npars o)), _, _, _, _, _, _, _, _, _, _, _, rfl, ?_, dC2.same (Cut.same (s21.trans (s22.trans s23))), by rw [List.length_cons, lo], ?_, rg.st.same (s1922.trans s23), kfin⟩
          · exact .lst (SqL.of (Cut.at (lv23.off n23) h23)) (.cons dob (dps_same (Cut.same s23) dos))
          · have := ObsG.cons (ob := ⟨oname "o" j, cellsD fs, ops⟩) og ⟨by show oname "o" j = oname "o" obs.length; rw [lo], z, hz, by rw [efs], by show ops.length ≤ 2; omega, by show 1 ≤ ops.length; omega, fun k o g => by
              have := rg.ok k o g
              rw [efs] at this; exact this⟩
            rw [lo] at this
            exact this
    · rintro σ H4 ⟨O, C, obs, cs, y4, y5, y6, y7, y8, y9, y10, y11, y12, y13, y14, rfl, dO, dC, lo, og, st4, k4⟩
      have lv4 := lv.keepS st4 k4
      walk_at "my rn"
      intro M H5 nM s5 hM
      exact q M O C obs cs H5 (k4.free st4 nM) hM (lv4.off nM) (dp_same (Cut.same s5) dO) (dC.same (Cut.same s5)) (by omega) og (st4.same s5) (k4.trans (Keep.same s5))
end

end Mine

set_option Elab.async false
set_option linter.all false
set_option maxRecDepth 100000
set_option maxHeartbeats 1000000

--@@rec _law_expr _law_body _law_statement _copied _copied_statement _law_names

--@@guards
namespace Mine
open PySem PySem.Spec PyProof.Rows L2
local macro_rules | `(tactic| walk_at "my rn") => `(tactic| (repeat (first | with_reducible refine Rd.catQI ?_ | with_reducible refine Rd.revN ?_ | with_reducible refine Rd.lzip ?_ | with_reducible refine Rd.fld ?_ | with_reducible refine Rd.sfld ?_ | with_reducible refine Rd.meth ?_ | with_reducible refine Rd.make ?_ | with_reducible refine Rd.izip ?_ | with_reducible refine Rd.tupN ?_ | with_reducible refine Rd.lstN ?_ | with_reducible refine Rd.cbListOf ?_ | with_reducible refine Rd.cbListOfR ?_ | with_reducible refine Rd.catI ?_ | with_reducible refine Rd.slN ?_ | with_reducible refine Rd.cbSrtI ?_ | with_reducible refine Rd.seq ?_ | with_reducible refine Rd.next ?_ | with_reducible refine Rd.brk ?_ | with_reducible refine Rd.cont ?_ | with_reducible refine Rd.asg ?_ | with_reducible refine Rd.ret ?_ | with_reducible refine Rd.retN ?_ | with_reducible refine Rd.drop ?_ | with_reducible refine Rd.ifs ?_ | with_reducible refine Rd.ife ?_ | with_reducible refine Rd.test ?_ | with_reducible refine Rd.tb_ ?_ | with_reducible refine Rd.bl ?_ | with_reducible refine Rd.bl2 ?_ | with_reducible refine Rd.and_ ?_ | with_reducible refine Rd.or_ ?_ | with_reducible refine Rd.not_ ?_ | with_reducible refine Rd.andV ?_ | with_reducible refine Rd.orV ?_ | with_reducible refine Rd.notV ?_ | with_reducible refine Rd.op ?_ | with_reducible refine Rd.un ?_ | with_reducible refine Rd.I0 ?_ | with_reducible refine Rd.U ?_ | with_reducible refine Rd.ip ?_ | with_reducible refine Rd.c_ ?_ | with_reducible refine Rd.nil ?_ | with_reducible refine Rd.cons ?_ | with_reducible refine Rd.call ?_ | with_reducible refine Rd.cb ?_ | with_reducible refine Rd.bm ?_ | with_reducible refine Rd.bm0 ?_ | with_reducible refine Rd.nopart ?_ | with_reducible refine Rd.part ?_ | with_reducible refine Rd.int1 ?_ | with_reducible refine Rd.ints1 ?_ | with_reducible refine Rd.ints2 ?_ | with_reducible refine Rd.gcons ?_ | with_reducible refine Rd.gnil ?_ | with_reducible refine Rd.sub ?_ | with_reducible refine Rd.isN ?_ | with_reducible refine Rd.chain ?_ | with_reducible refine Rd.rf ?_ | with_reducible refine Rd.tyS ?_ | with_reducible refine Rd.intI ?_ | with_reducible refine Rd.lc ?_ | with_reducible refine Rd.for_ ?_ | with_reducible refine Rd.ilist ?_ | with_reducible refine Rd.itup ?_ | with_reducible refine Rd.irng1 ?_ | with_reducible refine Rd.irng2 ?_ | with_reducible refine Rd.ienum ?_ | with_reducible refine Rd.istr ?_ | with_reducible refine Rd.refA ?_ | with_reducible refine Rd.strA ?_ | with_reducible refine Rd.yes ?_ | with_reducible refine Rd.ifT ?_ | with_reducible refine Rd.ifF ?_ | with_reducible refine Rd.ifnT ?_ | with_reducible refine Rd.ifnF ?_ | with_reducible refine Rd.isi_ii ?_ | with_reducible refine Rd.isi_ib ?_ | with_reducible refine Rd.isi_is ?_ | with_reducible refine Rd.isi_il ?_ | with_reducible refine Rd.isi_it ?_ | with_reducible refine Rd.isi_id ?_ | with_reducible refine Rd.isi_bi ?_ | with_reducible refine Rd.isi_bb ?_ | with_reducible refine Rd.isi_bs ?_ | with_reducible refine Rd.isi_bl ?_ | with_reducible refine Rd.isi_bt ?_ | with_reducible refine Rd.isi_bd ?_ | with_reducible refine Rd.isi_si ?_ | with_reducible refine Rd.isi_sb ?_ | with_reducible refine Rd.isi_ss ?_ | with_reducible refine Rd.isi_sl ?_ | with_reducible refine Rd.isi_st ?_ | with_reducible refine Rd.isi_sd ?_ | with_reducible refine Rd.isi_ni ?_ | with_reducible refine Rd.isi_nb ?_ | with_reducible refine Rd.isi_ns ?_ | with_reducible refine Rd.isi_nl ?_ | with_reducible refine Rd.isi_nt ?_ | with_reducible refine Rd.isi_nd ?_ | with_reducible refine Rd.sl ?_ | with_reducible refine Rd.v0 ?_ | with_reducible refine Rd.v1 ?_ | with_reducible refine Rd.v2 ?_ | with_reducible refine Rd.v3 ?_ | with_reducible refine Rd.v4 ?_ | with_reducible refine Rd.v5 ?_ | with_reducible refine Rd.v6 ?_ | with_reducible refine Rd.v7 ?_ | with_reducible refine Rd.v8 ?_ | with_reducible refine Rd.v9 ?_ | with_reducible refine Rd.v10 ?_ | with_reducible refine Rd.v11 ?_ | with_reducible refine Rd.v12 ?_ | with_reducible refine Rd.v13 ?_ | with_reducible refine Rd.v14 ?_ | with_reducible refine Rd.v15 ?_ | with_reducible refine Rd.n0 ?_ | with_reducible refine Rd.n1 ?_ | with_reducible refine Rd.n2 ?_ | with_reducible refine Rd.n3 ?_ | with_reducible refine Rd.n4 ?_ | with_reducible refine Rd.n5 ?_ | with_reducible refine Rd.n6 ?_ | with_reducible refine Rd.n7 ?_ | with_reducible refine Rd.n8 ?_ | with_reducible refine Rd.n9 ?_ | with_reducible refine Rd.n10 ?_ | with_reducible refine Rd.n11 ?_ | with_reducible refine Rd.n12 ?_ | with_reducible refine Rd.n13 ?_ | with_reducible refine Rd.n14 ?_ | with_reducible refine Rd.n15 ?_ | with_reducible refine Rd.g0 ?_ | with_reducible refine Rd.g1 ?_ | with_reducible refine Rd.g2 ?_ | with_reducible refine Rd.g3 ?_ | with_reducible refine Rd.g4 ?_ | with_reducible refine Rd.g5 ?_ | with_reducible refine Rd.g6 ?_ | with_reducible refine Rd.g7 ?_ | with_reducible refine Rd.g8 ?_ | with_reducible refine Rd.g9 ?_ | with_reducible refine Rd.g10 ?_ | with_reducible refine Rd.g11 ?_ | with_reducible refine Rd.g12 ?_ | with_reducible refine Rd.g13 ?_ | with_reducible refine Rd.g14 ?_ | with_reducible refine Rd.g15 ?_ | ((with_reducible apply Rd.glst); (first | assumption | exact upd_same); exact rfl) | ((with_reducible apply Rd.gtP); assumption; assumption) | ((with_reducible apply Rd.revq); first | assumption | exact SqL.of (by assumption)) | ((with_reducible apply Rd.fldI); (first | assumption | exact upd_same); assumption; assumption; (first | assumption | with_unfolding_all rfl)) | ((with_reducible apply Rd.methI); (first | assumption | exact upd_same); (first | assumption | with_unfolding_all rfl)) | ((with_reducible apply Rd.sfldI); (first | assumption | exact upd_same); assumption; assumption; exact Nat.le_of_ble_eq_true rfl) | ((with_reducible apply Rd.maxL); assumption) | ((with_reducible apply Rd.anyL); assumption) | ((with_reducible apply Rd.sumL); assumption) | ((with_reducible refine Rd.izI (by assumption) (by assumption) ?_)) | ((with_reducible refine Rd.eq ?_ ?_); exact rfl) | ((with_reducible refine Rd.ne ?_ ?_); exact rfl) | ((with_reducible refine Rd.szA ?_ ?_); exact Nat.le_of_ble_eq_true rfl) | ((with_reducible refine Rd.I ?_ ?_); first | assumption | decide | exact Or.inr (by decide +kernel) | exact Or.inl (by decide +kernel) | exact ⟨by decide, by decide⟩ | exact ⟨by decide, by decide, by decide⟩ | omega) | ((with_reducible apply Rd.tyL); first | assumption | exact upd_same) | ((with_reducible apply Rd.tyLq); assumption) | ((with_reducible apply Rd.ixL); (first | assumption | exact upd_same); exact rfl) | ((with_reducible apply Rd.ixT); (first | assumption | exact upd_same); exact rfl) | ((with_reducible apply Rd.ixLq); assumption; exact rfl) | ((with_reducible apply Rd.ixTq); assumption; exact rfl) | ((with_reducible apply Rd.gtup); (first | assumption | exact upd_same); exact rfl) | ((with_reducible apply Rd.gtupq); assumption; exact rfl) | ((with_reducible apply Rd.sqAq); assumption) | ((with_reducible apply Rd.stAq); assumption) | ((with_reducible apply Rd.enAq); assumption) | ((with_reducible apply Rd.lenLq); assumption) | ((with_reducible apply Rd.lenTq); assumption) | ((with_reducible apply Rd.sqA); first | assumption | exact upd_same) | ((with_reducible apply Rd.stA); first | assumption | exact upd_same) | ((with_reducible apply Rd.enA); first | assumption | exact upd_same) | ((with_reducible apply Rd.lenL); first | assumption | exact upd_same) | ((with_reducible apply Rd.lenT); first | assumption | exact upd_same) | ((with_reducible refine Rd.nwT ?_ ?_); exact Nat.le_of_ble_eq_true rfl) | ((with_reducible refine Rd.nwL ?_ ?_); exact Nat.le_of_ble_eq_true rfl) | ((with_reducible apply Rd.listOf); assumption) | ((with_reducible apply Rd.listOfq); assumption) | ((with_reducible apply Rd.slo); assumption) | ((with_reducible apply Rd.slq); assumption) | ((with_reducible apply Rd.srtI); assumption) | ((with_reducible apply Rd.srtIo); assumption) | ((with_reducible refine Rd.isi_li (by assumption) ?_)) | ((with_reducible refine Rd.isi_lb (by assumption) ?_)) | ((with_reducible refine Rd.isi_ls (by assumption) ?_)) | ((with_reducible refine Rd.isi_ll (by assumption) ?_)) | ((with_reducible refine Rd.isi_lt (by assumption) ?_)) | ((with_reducible refine Rd.isi_ld (by assumption) ?_)) | ((with_reducible refine Rd.isi_ti (by assumption) ?_)) | ((with_reducible refine Rd.isi_tb (by assumption) ?_)) | ((with_reducible refine Rd.isi_ts (by assumption) ?_)) | ((with_reducible refine Rd.isi_tl (by assumption) ?_)) | ((with_reducible refine Rd.isi_tt (by assumption) ?_)) | ((with_reducible refine Rd.isi_td (by assumption) ?_)))))

/-! ### the law's program -/
/-- a comprehension over a range whose elements are data, with draws -/
theorem lc_drawD {K : PySem.W.Frag} {n : Nat} {g : TG} {te : TE} {vs : List Nat} {σ : L2.St} {H1 : Hp} {D p c : Addr} {Qd : Hp → Prop} {S : Addr → Prop} (hp : S p) (hc : S c) (lv : Live S H1) (st : StOk H1 p c) (nD : H1 D = none) (hn : n ≤ 90000) (G : Nat → PyData → Prop)
    (hs : ∀ (i : Nat) H (Kt : VK), i < n → StOk H p c → Live (fun a => S a ∨ a = D) H → (∀ v d H4, G i d → Dp K (Cut (fun a => S a ∨ a = D) H4) v d → StOk H4 p c → Keep p c H H4 → Kt v H4) → g (.int (i : Int)) (wipe σ vs) H fun σ2 H2 => wipe σ2 vs = wipe σ vs ∧ te σ2 H2 Kt)
    (hd : ∀ H xs ds, ds.length = n → (∀ (i : Nat) d, ds[i]? = some d → G i d) → DpAll K (Cut S H) xs ds → H D = some (.lst xs) → StOk H p c → Keep p c H1 H → Qd H) :
    ∃ W : Nat → Nat → Hp → Prop, (∃ m, W 0 m (upd H1 D (.lst []))) ∧ ∀ i m H, W i m H →
      ((Itr 0 n).stop i H ∧ Qd H) ∨ ((Itr 0 n).go i H ∧ ∃ Nx : Hp → Prop, (∀ H', Nx H' → ∃ m', m' < m ∧ W (i + 1) m' H') ∧ ∀ x H', (Itr 0 n).yld i H x H' → g x (wipe σ vs) H' fun σ2 H2 => wipe σ2 vs = wipe σ vs ∧ tYes σ2 H2 fun b H3 =>
        if b = true then te σ2 H3 fun y H4 => ∃ acc, H4 D = some (.lst acc) ∧ acc.length < sizeLine ∧ Nx (upd H4 D (.lst (acc ++ [y]))) else Nx H3) := by
  have oD := lv.off nD
  have pD : D ≠ p ∧ D ≠ c := ⟨fun z => oD (by rw [z]; exact hp), fun z => oD (by rw [z]; exact hc)⟩
  refine lc_it walk_range (fun i H => ∃ (xs : List V) (ds : List PyData), ds.length = i ∧ (∀ (j : Nat) d, ds[j]? = some d → G j d) ∧ DpAll K (Cut (fun a => S a ∨ a = D) H) xs ds ∧ H D = some (.lst xs) ∧ StOk H p c ∧ Keep p c H1 H)
    ⟨[], [], rfl, by simp, .nil, upd_same, st.upd pD.1 pD.2, Keep.same (same_new nD)⟩ (fun _ _ _ _ => trivial) (fun i x H H' hi h y => ?_) (fun H ⟨xs, ds, ld, gd, dd, hD, s, k⟩ => hd H xs ds ld gd (dps_same (Cut.mono fun a m => .inl m) dd) hD s k)
  obtain ⟨xs, ds, ld, gd, dd, hD, s1, k1⟩ := h
  obtain ⟨rfl, e⟩ := Rd.zr y
  subst e
  have lx := dps_len dd
  refine hs i _ _ hi s1 ((lv.keepS s1 k1).or hD) fun v d H4 gi dv s4 k4 => ?_
  have hD4 := k4 _ _ pD.1 pD.2 hD
  have cS := cutK (S := fun a => S a ∨ a = D) (.inl hp) (.inl hc) k4
  have cf : Same (Cut (fun a => S a ∨ a = D) H4) (Cut (fun a => S a ∨ a = D) (upd H4 D (.lst (xs ++ [v])))) := Cut.upd (S := fun a => S a ∨ a = D) (.inr rfl)
  refine ⟨_, hD4, Rd.szl (by omega), xs ++ [v], ds ++ [d], by simp [ld], fun j e hj => ?_, dps_app (dps_same (cS.trans cf) dd) (.cons (dp_same cf dv) .nil), upd_same, s4.upd pD.1 pD.2, fun b o n1 n2 e => ?_⟩
  · by_cases hj2 : j < ds.length
    · rw [List.getElem?_append_left hj2] at hj
      exact gd j e hj
    · have hl := (List.getElem?_eq_some_iff.mp hj).1
      simp at hl
      have ej : j = i := by omega
      rw [ej, List.getElem?_append_right (by omega), ld, Nat.sub_self] at hj
      have hj := Option.some.inj hj
      rw [← hj, ej]; exact gi
  · rw [upd_ne (fun z => by rw [z, nD] at e; cases e)]
    exact k4 b o n1 n2 (k1 b o n1 n2 e)
theorem pick_list {α β : Type} : ∀ (ds : List β) (R : Nat → α → β → Prop), (∀ (i : Nat) d, ds[i]? = some d → ∃ q, R i q d) → ∃ qs : List α, qs.length = ds.length ∧ ∀ (i : Nat) q d, qs[i]? = some q → ds[i]? = some d → R i q d
  | [], R, _ => ⟨[], rfl, by simp⟩
  | d :: r, R, h => by
    obtain ⟨q, hq⟩ := h 0 d rfl
    obtain ⟨qs, l, f⟩ := pick_list r (fun i => R (i + 1)) (fun i e he => h (i + 1) e (by simpa using he))
    refine ⟨q :: qs, by simp [l], fun i q' d' g1 g2 => ?_⟩
    cases i with
    | zero => simp at g1 g2; subst g1; subst g2; exact hq
    | succ i => exact f i q' d' (by simpa using g1) (by simpa using g2)
theorem pick_map {α : Type} (f : α → PyData) (ds : List PyData) (R : Nat → α → Prop) (h : ∀ (i : Nat) d, ds[i]? = some d → ∃ q, d = f q ∧ R i q) : ∃ qs : List α, ds = qs.map f ∧ ∀ (i : Nat) q, qs[i]? = some q → R i q := by
  obtain ⟨qs, l, g⟩ := pick_list ds (fun i q d => d = f q ∧ R i q) h
  refine ⟨qs, List.ext_getElem? fun i => ?_, fun i q e => ?_⟩
  · rw [List.getElem?_map]
    by_cases hi : i < ds.length
    · have h1 : ds[i]? = some ds[i] := List.getElem?_eq_getElem hi
      have h2 : qs[i]? = some qs[i] := List.getElem?_eq_getElem (by omega)
      rw [h1, h2, (g i _ _ h2 h1).1]; rfl
    · rw [List.getElem?_eq_none (by omega), List.getElem?_eq_none (by omega)]; rfl
  · have hi := (List.getElem?_eq_some_iff.mp e).1
    exact (g i q _ e (List.getElem?_eq_getElem (by omega))).2
structure TaskG (ports : List (Str × Str)) (cs : List (Str × Str × Nat)) (k : Nat) (t : Task) : Prop where
  name : t.name = oname "t" k
  ex : ∃ (z within every : Int), (z = 0 ∨ z = 2 ∨ z = 5) ∧ 1 ≤ within ∧ within ≤ 3000 ∧ within ≤ every ∧ every ≤ within + 899 ∧ t.within = within ∧ t.every = .int every ∧ t.locs = cellsD [("a", 0), ("b", z)] ∧ BodyW ⟨[("a", 0), ("b", z)], [], ports, cs, 2⟩ 2 t.body
structure IntrG (cs : List (Str × Str × Nat)) (t : Intr) : Prop where
  name : t.name = "alarm"
  ex : ∃ (op : Str) (many : Nat) (within every : Int) (args : List Int), (t.obj, op, many) ∈ cs ∧ 1 ≤ within ∧ within ≤ 900 ∧ within ≤ every ∧ every ≤ within + 899 ∧ t.within = .int within ∧ t.every = .int every ∧ t.op = .str op ∧ t.args = .list (args.map PyData.int) ∧ args.length = many ∧ ∀ a ∈ args, Word a
structure ProgG (tasks : Nat) (objects : Nat) (ports : List (Str × Str)) (cs : List (Str × Str × Nat)) (p : Pg) : Prop where
  kind : p.kind = .str "system"
  name : p.name = .str "s"
  pd : p.ports = .list (ports.map portD)
  pn : ∀ (i : Nat) (q : Str × Str), ports[i]? = some q → (q.1 = ("in" : Str) ∨ q.1 = ("out" : Str)) ∧ q.2 = oname "p" i
  pl : ports.length ≤ 3
  obs : ObsG p.obs cs
  lo : p.obs.length ≤ objects
  tl : p.tasks.length ≤ tasks
  tg : ∀ (i : Nat) t, p.tasks[i]? = some t → TaskG ports cs i t
  il : p.irs.length ≤ 1
  ig : ∀ t ∈ p.irs, IntrG cs t
structure TksG (K : PySem.W.Frag) (S : Addr → Prop) (p c T : Addr) (ports : List (Str × Str)) (cs : List (Str × Str × Nat)) (i : Nat) (H H' : Hp) (tv : List V) (tks : List Task) : Prop where
  hT : H' T = some (.lst tv)
  dT : DpAll K (Cut (fun a => S a ∨ a = T) H') tv (tks.map Task.d)
  len : tks.length = i
  ok : ∀ (k : Nat) t, tks[k]? = some t → TaskG ports cs k t
  st : StOk H' p c
  kp : ∀ b o, b ≠ p → b ≠ c → b ≠ T → H b = some o → H' b = some o
section
variable {P : Program} {w : World} {K : PySem.W.Frag} {mg : Str → Option Value} {base : Heap}
def sp__law_program (K : PySem.W.Frag) : Sp := fun vs H Q _ => ∃ (S : Addr → Prop) (p c : Addr) (mt mo : Nat), vs = [.ref p, .int mt, .int mo] ∧ StOk H p c ∧ S p ∧ S c ∧ Live S H ∧ 1 ≤ mt ∧ mt ≤ 8 ∧ mo ≤ 4 ∧
  ∀ (v : V) (pg : Pg) (ports : List (Str × Str)) (cs : List (Str × Str × Nat)) H', Dp K (Cut S H') v pg.d → ProgG mt mo ports cs pg → StOk H' p c → Keep p c H H' → Q v H'
theorem ok__law_program (T : Top K mg) : FnOk P w K mg base CX0 42 T.a__law_program T.d__law_program ["state", "most_tasks", "most_objects"]  (sp__law_program K) := by
  refine T.F__law_program.ok sc__law_program (fun vs H Q E h => ?_) (fun cdv A outer s H vs Q E hr h => ?_)
  · obtain ⟨_, _, _, _, _, rfl, _⟩ := h
    rfl
  · obtain ⟨S, p, c, mt, mo, rfl, st, hp, hc, lv, mt1, mt8, mo4, q⟩ := h
    refine ⟨_, (pss_cons (ps_setLc (i := 3) (own := [("k", 4)]) (g := gName 4) (tt := tYes) rfl sc__law_program.nd rfl rfl (sw_true rfl rfl rfl (by decide +kernel)) (pi_range1 (by rfl) T.m_range (pa_cons (pe_call (ok__law_draw T) (hr.mono (by decide)) (by rfl) T.g__law_draw T.F__law_draw.kp T.b__law_draw .nil pass0 (pa_cons (pv 0) (pa_cons pe_int pa_nil))) pa_nil)) (blkOk_by (N := ["state", "most_tasks", "most_objects", "ports", "k", "things", "calls", "tasks", "cells", "body", "within", "rest", "thing", "operation", "many", "args"]) (sc := defScope s__law_program) (by decide +kernel)) (fun _ _ _ _ _ => pg_name (i := 4) sc__law_program.nd rfl (Or.inl rfl)) (fun _ _ _ _ _ => pts_nil) (fun _ _ _ _ _ => (pe_tup (pa_cons (pe_call (ok__law_pick T) (hr.mono (by decide)) (by rfl) T.g__law_pick T.F__law_pick.kp T.b__law_pick .nil pass0 (pa_cons (pv 0) (pa_cons (pe_lst (pa_cons pe_str (pa_cons pe_str pa_nil))) pa_nil))) (pa_cons (pe_op op_add_str pe_str (pe_callTy call_str_int (by rfl) T.m_str (by decide +kernel) (pa_cons (pv 4) pa_nil))) pa_nil)))))
  (pss_cons (ps_asg (pe_call (ok__law_objects T) (hr.mono (by decide)) (by rfl) T.g__law_objects T.F__law_objects.kp T.b__law_objects .nil pass0 (pa_cons (pv 0) (pa_cons (pv 2) pa_nil))) (pg_lst rfl (pgs_cons (pg_name (i := 5) sc__law_program.nd rfl (by first | exact Or.inl rfl | exact Or.inr rfl)) (pgs_cons (pg_name (i := 6) sc__law_program.nd rfl (by first | exact Or.inl rfl | exact Or.inr rfl)) pgs_nil))))
  (pss_cons (ps_set (i := 7) sc__law_program.nd rfl (by first | exact Or.inl rfl | exact Or.inr rfl) (pe_lst pa_nil))
  (pss_cons (ps_for PassesOwn.never rfl (pi_range1 (by rfl) T.m_range (pa_cons (pe_op op_add pe_int (pe_call (ok__law_draw T) (hr.mono (by decide)) (by rfl) T.g__law_draw T.F__law_draw.kp T.b__law_draw .nil pass0 (pa_cons (pv 0) (pa_cons (pv 1) pa_nil)))) pa_nil)) (pg_name (i := 4) sc__law_program.nd rfl (by first | exact Or.inl rfl | exact Or.inr rfl))
  (pss_cons (ps_set (i := 8) sc__law_program.nd rfl (by first | exact Or.inl rfl | exact Or.inr rfl) (pe_lst (pa_cons (pe_tup (pa_cons pe_str (pa_cons pe_int pa_nil))) (pa_cons (pe_tup (pa_cons pe_str (pa_cons (pe_call (ok__law_pick T) (hr.mono (by decide)) (by rfl) T.g__law_pick T.F__law_pick.kp T.b__law_pick .nil pass0 (pa_cons (pv 0) (pa_cons (pe_lst (pa_cons pe_int (pa_cons pe_int (pa_cons pe_int (pa_cons pe_int pa_nil))))) pa_nil))) pa_nil))) pa_nil))))
  (pss_cons (ps_set (i := 9) sc__law_program.nd rfl (by first | exact Or.inl rfl | exact Or.inr rfl) (pe_call (ok__law_body T) (hr.mono (by decide)) (by rfl) T.g__law_body T.F__law_body.kp T.b__law_body .nil pass0 (pa_cons (pv 0) (pa_cons (pe_lst (pa_cons (pv 8) (pa_cons (pe_lst pa_nil) (pa_cons (pv 3) (pa_cons (pv 6) (pa_cons pe_int pa_nil)))))) (pa_cons pe_int pa_nil)))))
  (pss_cons (ps_set (i := 10) sc__law_program.nd rfl (by first | exact Or.inl rfl | exact Or.inr rfl) (pe_op op_add pe_int (pe_call (ok__law_draw T) (hr.mono (by decide)) (by rfl) T.g__law_draw T.F__law_draw.kp T.b__law_draw .nil pass0 (pa_cons (pv 0) (pa_cons (pe_call (ok__law_pick T) (hr.mono (by decide)) (by rfl) T.g__law_pick T.F__law_pick.kp T.b__law_pick .nil pass0 (pa_cons (pv 0) (pa_cons (pe_lst (pa_cons pe_int (pa_cons pe_int pa_nil))) pa_nil))) pa_nil)))))
  (pss_one (ps_expr (pe_bm PySem.F.plainAttrs_list PySem.F.slot_list_append PySem.F.type_list_append mt_append (pv 7) (pa_cons (pe_tup (pa_cons pe_str (pa_cons (pe_op op_add_str pe_str (pe_callTy call_str_int (by rfl) T.m_str (by decide +kernel) (pa_cons (pv 4) pa_nil))) (pa_cons (pe_op op_add (pv 10) (pe_call (ok__law_draw T) (hr.mono (by decide)) (by rfl) T.g__law_draw T.F__law_draw.kp T.b__law_draw .nil pass0 (pa_cons (pv 0) (pa_cons pe_int pa_nil)))) (pa_cons (pv 10) (pa_cons (pv 8) (pa_cons (pv 9) pa_nil))))))) pa_nil))))))))
  (pss_cons (ps_set (i := 11) sc__law_program.nd rfl (by first | exact Or.inl rfl | exact Or.inr rfl) (pe_lst pa_nil))
  (pss_cons (ps_if (pw_and (pt_cmpR op_gt (pe_callB call_len_seq (by rfl) T.m_len PySem.boot_len (pa_cons (pv 6) pa_nil)) pe_int (nomark _)) (pw_and1 (pt_cmpR op_eq (pe_call (ok__law_draw T) (hr.mono (by decide)) (by rfl) T.g__law_draw T.F__law_draw.kp T.b__law_draw .nil pass0 (pa_cons (pv 0) (pa_cons pe_int pa_nil))) pe_int (nomark _)))).pt
  (pss_cons (ps_asg (pe_call (ok__law_pick T) (hr.mono (by decide)) (by rfl) T.g__law_pick T.F__law_pick.kp T.b__law_pick .nil pass0 (pa_cons (pv 0) (pa_cons (pv 6) pa_nil))) (pg_tup rfl (pgs_cons (pg_name (i := 12) sc__law_program.nd rfl (by first | exact Or.inl rfl | exact Or.inr rfl)) (pgs_cons (pg_name (i := 13) sc__law_program.nd rfl (by first | exact Or.inl rfl | exact Or.inr rfl)) (pgs_cons (pg_name (i := 14) sc__law_program.nd rfl (by first | exact Or.inl rfl | exact Or.inr rfl)) pgs_nil)))))
  (pss_cons (ps_set (i := 10) sc__law_program.nd rfl (by first | exact Or.inl rfl | exact Or.inr rfl) (pe_op op_add pe_int (pe_call (ok__law_draw T) (hr.mono (by decide)) (by rfl) T.g__law_draw T.F__law_draw.kp T.b__law_draw .nil pass0 (pa_cons (pv 0) (pa_cons pe_int pa_nil)))))
  (pss_cons (ps_setLc (i := 15) (own := [("k", 4)]) (g := gName 4) (tt := tYes) rfl sc__law_program.nd rfl rfl (sw_true rfl rfl rfl (by decide +kernel)) (pi_range1 (by rfl) T.m_range (pa_cons (pv 14) pa_nil)) (blkOk_by (N := ["state", "most_tasks", "most_objects", "ports", "k", "things", "calls", "tasks", "cells", "body", "within", "rest", "thing", "operation", "many", "args"]) (sc := defScope s__law_program) (by decide +kernel)) (fun _ _ _ _ _ => pg_name (i := 4) sc__law_program.nd rfl (Or.inl rfl)) (fun _ _ _ _ _ => pts_nil) (fun _ _ _ _ _ => (pe_call (ok__law_word T) (hr.mono (by decide)) (by rfl) T.g__law_word T.F__law_word.kp T.b__law_word .nil pass0 (pa_cons (pv 0) pa_nil))))
  (pss_one (ps_expr (pe_bm PySem.F.plainAttrs_list PySem.F.slot_list_append PySem.F.type_list_append mt_append (pv 11) (pa_cons (pe_tup (pa_cons pe_str (pa_cons pe_str (pa_cons (pe_op op_add (pv 10) (pe_call (ok__law_draw T) (hr.mono (by decide)) (by rfl) T.g__law_draw T.F__law_draw.kp T.b__law_draw .nil pass0 (pa_cons (pv 0) (pa_cons pe_int pa_nil)))) (pa_cons (pv 10) (pa_cons (pv 12) (pa_cons (pv 13) (pa_cons (pv 15) pa_nil)))))))) pa_nil)))))))
  pss_nil)
  (pss_one (ps_ret (pe_tup (pa_cons pe_str (pa_cons pe_str (pa_cons (pv 3) (pa_cons (pv 5) (pa_cons (pv 7) (pa_cons (pv 11) pa_nil))))))))))))))), ?_⟩
    rw [show ∀ a0 a1 a2 : V, L2.start ["state", "most_tasks", "most_objects", "ports", "k", "things", "calls", "tasks", "cells", "body", "within", "rest", "thing", "operation", "many", "args"] [a0, a1, a2] = [some a0, some a1, some a2, none, none, none, none, none, none, none, none, none, none, none, none, none] from fun _ _ _ => rfl]
    walk_at "my rn"
    refine ⟨p, c, 4, rfl, st, by decide, by decide, fun pn H1 p0 p1 st1 k1 => ?_⟩
    have lv1 := lv.keepS st1 k1
    walk_at "my rn"
    refine ⟨by omega, by omega, fun D nD => ?_⟩
    refine lc_drawD (K := K) hp hc lv1 st1 nD (by omega) (fun i d => ∃ q : Str × Str, d = portD q ∧ (q.1 = ("in" : Str) ∨ q.1 = ("out" : Str)) ∧ q.2 = oname "p" i) (fun i Hx Kt hi stx lvx kt => ?_) (fun H2 xs ds ld gd dd hD st2 k2 => ?_)
    · have li2 : (Str.ofString (toString ((i : Nat) : Int))).length ≤ 18 := dec_str i (by omega)
      simp only [List.map_cons, List.map_nil, L2.wipe, List.set_cons_succ, List.set_cons_zero]
      walk_at "my rn"
      refine ⟨rfl, ?_⟩
      walk_at "my rn"
      intro l1 Hy ny sy hy
      have o1 := lvx.off ny
      walk_at "my rn"
      refine ⟨p, c, l1, _, rfl, stx.same sy, hy, by simp, by show 2 ≤ 100000; decide, fun z => o1 (.inl (by rw [z]; exact hp)), fun z => o1 (.inl (by rw [z]; exact hc)), fun y my Hz stz kz => ?_⟩
      obtain ⟨way, rfl, hway⟩ : ∃ z : Str, y = .str z ∧ (z = ("in" : Str) ∨ z = ("out" : Str)) := by
        simp only [List.mem_cons, List.mem_nil_iff, or_false] at my
        rcases my with rfl | rfl
        · exact ⟨"in", rfl, .inl rfl⟩
        · exact ⟨"out", rfl, .inr rfl⟩
      have lvz := (lvx.same sy).keepS stz kz
      walk_at "my rn"
      refine ⟨dec_log i (by omega), _, _, rfl, rfl, Rd.sz (by show 1 + _ ≤ _; omega), ?_⟩
      walk_at "my rn"
      intro tp Hw nw sw hw
      exact kt _ _ Hw ⟨(way, oname "p" i), rfl, hway, rfl⟩ (.tup (SqT.of (Cut.at (lvz.off nw) hw)) (.cons (.str _) (.cons (.str _) .nil))) (stz.same sw) ((Keep.same sy).trans (kz.trans (Keep.same sw)))
    · obtain ⟨ports, rfl, hpn⟩ : ∃ ports : List (Str × Str), ds = ports.map portD ∧ ∀ (i : Nat) q, ports[i]? = some q → (q.1 = ("in" : Str) ∨ q.1 = ("out" : Str)) ∧ q.2 = oname "p" i := by
        obtain ⟨qs, e, f⟩ := pick_map portD ds (fun i q => (q.1 = ("in" : Str) ∨ q.1 = ("out" : Str)) ∧ q.2 = oname "p" i) (fun i d e => by
          obtain ⟨q, a, b⟩ := gd i d e
          exact ⟨q, a, b⟩)
        exact ⟨qs, e, f⟩
      have lp : ports.length ≤ 3 := by rw [List.length_map] at ld; omega
      have oD := lv1.off nD
      have lv2 := lv1.keepS st2 k2
      walk_at "my rn"
      refine ⟨S, p, c, mo, rfl, st2, hp, hc, lv2, mo4, fun M O C obs cs H3 nM hM oM dO dC lo og st3 k3 => ?_⟩
      have lv3 := lv2.keepS st3 k3
      have c23 := cutK hp hc k3
      have dP3 : LstD K (Cut S H3) D (ports.map portD) := ⟨xs, c23 _ _ (Cut.at oD hD), dps_same c23 dd⟩
      have lcs := obsG_calls og
      walk_at "my rn"
      intro T1 H4 nT s4 hT
      have oT := lv3.off nT
      walk_at "my rn"
      refine ⟨p, c, _, rfl, st3.same s4, by omega, by omega, fun tn H5 t0 t1 st5 k5 => ?_⟩
      have pT : T1 ≠ p ∧ T1 ≠ c := ⟨fun z => oT (by rw [z]; exact hp), fun z => oT (by rw [z]; exact hc)⟩
      have hT5 := k5 _ _ pT.1 pT.2 hT
      have STp : (fun a => S a ∨ a = T1) p := .inl hp
      have STc : (fun a => S a ∨ a = T1) c := .inl hc
      have lv5 := (((lv3.same s4).keepS st5 k5)).or hT5
      have c35 : Same (Cut S H3) (Cut (fun a => S a ∨ a = T1) H5) := (Cut.free s4 nT).trans (cutK (S := fun a => S a ∨ a = T1) STp STc k5)
      walk_at "my rn"
      refine ⟨by omega, by omega, ?_⟩
      rw [show ((1 + tn)).toNat = tn.toNat + 1 from by omega]
      have dO5 := dp_same c35 dO
      have dP5 := dP3.same c35
      have dC5 := dC.same c35
      have lvT : ∀ {H6 : Hp} {i : Nat} {tv : List V} {tks : List Task}, TksG K S p c T1 ports cs i H5 H6 tv tks → Live (fun a => S a ∨ a = T1) H6 := fun {H6 i tv tks} tg a m => by
        by_cases z : a = T1
        · exact ⟨_, by rw [z]; exact tg.hT⟩
        by_cases z1 : a = p
        · rw [z1]; exact tg.st.there.1
        by_cases z2 : a = c
        · rw [z2]; exact tg.st.there.2
        obtain ⟨x, e⟩ := lv5 a m
        exact ⟨x, tg.kp a x z1 z2 z e⟩
      have cT : ∀ {H6 : Hp} {i : Nat} {tv : List V} {tks : List Task}, TksG K S p c T1 ports cs i H5 H6 tv tks → Same (Cut (fun a => S a ∨ a = T1) H5) (Cut (fun a => S a ∨ a = T1) H6) := fun {H6 i tv tks} tg => Cut.keep fun b o n e => tg.kp b o (fun z => n (by rw [z]; exact STp)) (fun z => n (by rw [z]; exact STc)) (fun z => n (.inr z)) e
      refine for_it walk_range (fun i σ H' => ∃ (tv : List V) (tks : List Task) (y4 y8 y9 y10 y11 y12 y13 y14 y15 : Option V), σ = [some (.ref p), some (.int (mt : Int)), some (.int (mo : Int)), some (.ref D), y4, some (.ref O), some (.ref C), some (.ref T1), y8, y9, y10, y11, y12, y13, y14, y15] ∧ TksG K S p c T1 ports cs i H5 H' tv tks)
        ⟨[], [], _, _, _, _, _, _, _, _, _, rfl, hT5, .nil, rfl, by simp, st5, fun _ _ _ _ _ e => e⟩ (fun _ _ _ _ _ => trivial) ?_ ?_
      · rintro i x σ H6o H6 hi ⟨tv, tks, y4, y8, y9, y10, y11, y12, y13, y14, y15, rfl, tg⟩ yy
        obtain ⟨rfl, e3⟩ := Rd.zr yy
        subst e3
        have lv6 := lvT tg
        have c56 := cT tg
        have ltv : tv.length = tks.length := by rw [dps_len tg.dT, List.length_map]
        have lt := tg.len
        have i8 : i < 8 := by omega
        have st6 := tg.st
        walk_at "my rn"
        intro t1 H7 n7 s7 h7
        walk_at "my rn"
        intro l1 H8 n8 s8 h8
        have lv7 := lv6.same s7
        have lv8 := lv7.same s8
        have o7 := lv6.off n7
        have o8 := lv7.off n8
        walk_at "my rn"
        refine ⟨p, c, l1, _, rfl, st6.same (s7.trans s8), h8, by simp, by show 4 ≤ 100000; decide, fun z => o8 (by rw [z]; exact STp), fun z => o8 (by rw [z]; exact STc), fun y my H9 st9 k9 => ?_⟩
        obtain ⟨z, rfl, hz⟩ : ∃ z : Int, y = .int z ∧ (z = 0 ∨ z = 2 ∨ z = 5) := by
          simp only [List.mem_cons, List.mem_nil_iff, or_false] at my
          rcases my with rfl | rfl | rfl | rfl
          · exact ⟨0, rfl, .inl rfl⟩
          · exact ⟨0, rfl, .inl rfl⟩
          · exact ⟨2, rfl, .inr (.inl rfl)⟩
          · exact ⟨5, rfl, .inr (.inr rfl)⟩
        have lv9 := lv8.keepS st9 k9
        have k69 : Keep p c H6 H9 := (Keep.same (s7.trans s8)).trans k9
        have c79 : Same (Cut (fun a => S a ∨ a = T1) H7) (Cut (fun a => S a ∨ a = T1) H9) := (Cut.same s8).trans (cutK STp STc k9)
        walk_at "my rn"
        intro t2 H10 n10 s10 h10
        have o10 := lv9.off n10
        have lv10 := lv9.same s10
        walk_at "my rn"
        intro Ce H11 n11 s11 h11
        have o11 := lv10.off n11
        have lv11 := lv10.same s11
        have dCe : DpAll K (Cut (fun a => S a ∨ a = T1) H11) [.ref t1, .ref t2] (([("a", 0), ("b", z)] : List (Str × Int)).map cellD) := .cons (.tup (SqT.of ((c79.trans (Cut.same (s10.trans s11))) _ _ (Cut.at o7 h7))) (.cons (.str _) (.cons (.int _) .nil))) (.cons (.tup (SqT.of (Cut.at o10 (s11 _ _ h10))) (.cons (.str _) (.cons (.int _) .nil))) .nil)
        walk_at "my rn"
        intro e1 H12 n12 s12 h12
        walk_at "my rn"
        intro e H13 n13 s13 h13
        have lv12 := lv11.same s12
        have lv13 := lv12.same s13
        have k613 : Keep p c H6 H13 := k69.trans (Keep.same (s10.trans (s11.trans (s12.trans s13))))
        have c613 : Same (Cut (fun a => S a ∨ a = T1) H6) (Cut (fun a => S a ∨ a = T1) H13) := cutK STp STc k613
        have st13 := st9.same (s10.trans (s11.trans (s12.trans s13)))
        have cN := cut_only (S := fun a => S a ∨ a = T1) (H := H13) STp STc
        obtain ⟨xp, hP, dP⟩ := dP5.same ((c56.trans c613).trans cN)
        obtain ⟨xa, hA, dA⟩ := dC5.same ((c56.trans c613).trans cN)
        have z0 : 0 ≤ z := by rcases hz with rfl | rfl | rfl <;> decide
        have envB : EnvAt K (New (Only p c H13) H13) e ⟨[("a", 0), ("b", z)], [], ports, cs, 2⟩ := env_of (cN _ _ (Cut.at (lv12.off n13) h13)) (cN _ _ (Cut.at o11 ((s12.trans s13) _ _ h11))) (dps_same ((Cut.same (s12.trans s13)).trans cN) dCe) (cN _ _ (Cut.at (lv11.off n12) (s13 _ _ h12))) hP dP hA dA
        walk_at "my rn"
        refine ⟨2, by decide, Only p c H13, H13, p, c, e, ⟨[("a", 0), ("b", z)], [], ports, cs, 2⟩, rfl, Here.self st13, envB, ⟨⟨by show 2 ≤ 100; decide, by show 0 ≤ 100; decide, by show ports.length ≤ 100; omega, by show cs.length ≤ 100; omega⟩, by show 0 + 2 ≤ 90; decide, by show [_, _] ≠ []; simp, fun q m => ?_, fun q m => ?_, fun q m => Nat.le_trans (lcs.2 q m) (by decide)⟩, fun vb b H14 db bw st14 k14 => ?_⟩
        · simp only [List.mem_cons, List.mem_nil_iff, or_false] at m
          rcases m with rfl | rfl
          · exact Int.le_refl _
          · exact z0
        · obtain ⟨j, hj⟩ := List.getElem?_of_mem m
          exact (hpn j q hj).1
        have lv14 := lv13.keepS st14 k14
        have db14 := dp_same (new_cut lv13) db
        walk_at "my rn"
        intro l2 H15 n15 s15 h15
        have o15 := lv14.off n15
        have lv15 := lv14.same s15
        walk_at "my rn"
        refine ⟨p, c, l2, _, rfl, st14.same s15, h15, by simp, by show 2 ≤ 100000; decide, fun z => o15 (by rw [z]; exact STp), fun z => o15 (by rw [z]; exact STc), fun y2 my2 H16 st16 k16 => ?_⟩
        obtain ⟨lim, rfl, hlim⟩ : ∃ z : Int, y2 = .int z ∧ (z = 300 ∨ z = 3000) := by
          simp only [List.mem_cons, List.mem_nil_iff, or_false] at my2
          rcases my2 with rfl | rfl
          · exact ⟨300, rfl, .inl rfl⟩
          · exact ⟨3000, rfl, .inr rfl⟩
        have lv16 := lv15.keepS st16 k16
        walk_at "my rn"
        refine ⟨p, c, lim, rfl, st16, by omega, by omega, fun u H17 u0 u1 st17 k17 => ?_⟩
        have lv17 := lv16.keepS st17 k17
        have hT17 := (k613.trans (k14.trans ((Keep.same s15).trans (k16.trans k17)))) _ _ pT.1 pT.2 tg.hT
        walk_at "my rn"
        have li2 : (Str.ofString (toString ((i : Nat) : Int))).length ≤ 18 := dec_str i (by omega)
        refine ⟨dec_log i (by omega), _, _, rfl, rfl, Rd.sz (by show 1 + _ ≤ _; omega), ?_⟩
        walk_at "my rn"
        refine ⟨p, c, _, rfl, st17, by decide, by decide, fun u2 H18 v0 v1 st18 k18 => ?_⟩
        have lv18 := lv17.keepS st18 k18
        walk_at "my rn"
        intro tp H19 n19 s19 h19
        have o19 := lv18.off n19
        have k1419 : Keep p c H14 H19 := (Keep.same s15).trans (k16.trans (k17.trans (k18.trans (Keep.same s19))))
        have k619 : Keep p c H6 H19 := k613.trans (k14.trans k1419)
        have hT19 := k619 _ _ pT.1 pT.2 tg.hT
        walk_at "my rn"
        refine Rd.app hT19 (Rd.szl (by omega)) ?_
        have cf : Same (Cut (fun a => S a ∨ a = T1) H19) (Cut (fun a => S a ∨ a = T1) (upd H19 T1 (.lst (tv ++ [.ref tp])))) := Cut.upd (S := fun a => S a ∨ a = T1) (.inr rfl)
        have c1419 : Same (Cut (fun a => S a ∨ a = T1) H14) (Cut (fun a => S a ∨ a = T1) H19) := cutK STp STc k1419
        have c1119 : Same (Cut (fun a => S a ∨ a = T1) H11) (Cut (fun a => S a ∨ a = T1) H19) := cutK STp STc ((Keep.same (s12.trans s13)).trans (k14.trans k1419))
        have c619 : Same (Cut (fun a => S a ∨ a = T1) H6) (Cut (fun a => S a ∨ a = T1) H19) := cutK STp STc k619
        refine ⟨tv ++ [.ref tp], tks ++ [⟨oname "t" i, .int (1 + u + u2), 1 + u, cellsD [("a", 0), ("b", z)], b⟩], _, _, _, _, _, _, _, _, _, rfl, upd_same, ?_, by rw [List.length_append, lt]; rfl, fun k t g => ?_, (st18.same s19).upd pT.1 pT.2, fun b' o m1 m2 m3 e => ?_⟩
        · rw [List.map_append]
          refine dps_app (dps_same (c619.trans cf) tg.dT) (.cons (.tup (SqT.of (cf _ _ (Cut.at o19 h19))) (.cons (.str _) (.cons (.str _) (.cons (.int _) (.cons (.int _) (.cons (.lst (SqL.of ((c1119.trans cf) _ _ (Cut.at o11 h11))) (dps_same (c1119.trans cf) dCe)) (.cons (dp_same (c1419.trans cf) db14) .nil))))))) .nil)
        · by_cases hk : k < tks.length
          · rw [List.getElem?_append_left hk] at g
            exact tg.ok k t g
          · have hk2 := (List.getElem?_eq_some_iff.mp g).1
            simp at hk2
            have ek : k = i := by omega
            rw [ek, List.getElem?_append_right (by omega), lt, Nat.sub_self] at g
            have g := Option.some.inj g
            subst g
            rw [ek]
            exact ⟨rfl, z, 1 + u, 1 + u + u2, hz, by omega, by omega, by omega, by omega, rfl, rfl, rfl, bw⟩
        · rw [upd_ne m3]
          exact k619 _ _ m1 m2 (tg.kp b' o m1 m2 m3 e)
      · rintro σ H6 ⟨tv, tks, y4, y8, y9, y10, y11, y12, y13, y14, y15, rfl, tg⟩
        have lv6 := lvT tg
        have c56 := cT tg
        have lvS : Live S H6 := fun a m => lv6 a (.inl m)
        have mS : Same (Cut (fun a => S a ∨ a = T1) H6) (Cut S H6) := Cut.mono fun a m => .inl m
        have k6 : Keep p c H H6 := fun b o n1 n2 e => by
          have e3 := k3 _ _ n1 n2 (k2 _ _ n1 n2 (k1 _ _ n1 n2 e))
          exact tg.kp b o n1 n2 (fun z => by rw [z, nT] at e3; cases e3) (k5 _ _ n1 n2 (s4 _ _ e3))
        have dO6 := dp_same (c56.trans mS) dO5
        have dP6 := dP5.same (c56.trans mS)
        have dC6 := dC5.same (c56.trans mS)
        have dT6 : LstD K (Cut S H6) T1 (tks.map Task.d) := ⟨tv, Cut.at oT tg.hT, dps_same mS tg.dT⟩
        have st6 := tg.st
        have ltk := tg.len
        walk_at "my rn"
        intro R1 H7 n7 s7 hR
        have oR := lvS.off n7
        have lv7 := lvS.same s7
        have st7 := st6.same s7
        have pR : R1 ≠ p ∧ R1 ≠ c := ⟨fun z => oR (by rw [z]; exact hp), fun z => oR (by rw [z]; exact hc)⟩
        have fin : ∀ {Hx : Hp} (rv : List V) (irs : List Intr), Hx R1 = some (.lst rv) → DpAll K (Cut S Hx) rv (irs.map Intr.d) → irs.length ≤ 1 → (∀ t ∈ irs, IntrG cs t) → StOk Hx p c → (∀ b o, b ≠ p → b ≠ c → b ≠ R1 → H7 b = some o → Hx b = some o) → ∀ tp H', Hx tp = none → Same Hx H' → H' tp = some (.tup [.str "system", .str "s", .ref D, .ref O, .ref T1, .ref R1]) → Q (.ref tp) H' := fun {Hx} rv irs hr dr l1 ig stx kx tp H' ntp stp htp => by
          have oR6 : ∀ {a : Addr} {x : HO}, H6 a = some x → a ≠ R1 := fun e z => by rw [z, n7] at e; cases e
          have c6x : Same (Cut S H6) (Cut S H') := (Cut.keep fun b o n e => kx b o (fun z => n (by rw [z]; exact hp)) (fun z => n (by rw [z]; exact hc)) (oR6 e) (s7 _ _ e)).trans (Cut.same stp)
          have lvx : Live S Hx := fun a m => by
            by_cases z1 : a = p
            · rw [z1]; exact stx.there.1
            by_cases z2 : a = c
            · rw [z2]; exact stx.there.2
            obtain ⟨x, e⟩ := lv7 a m
            exact ⟨x, kx a x z1 z2 (fun z => oR (by rw [← z]; exact m)) e⟩
          refine q (.ref tp) ⟨.str "system", .str "s", .list (ports.map portD), obs, tks, irs⟩ ports cs H' ?_ ⟨rfl, rfl, rfl, hpn, lp, og, lo, by show tks.length ≤ mt; omega, tg.ok, l1, ig⟩ (stx.same stp) (fun b o n1 n2 e => stp _ _ (kx b o n1 n2 (oR6 (k6 b o n1 n2 e)) (s7 _ _ (k6 b o n1 n2 e))))
          exact .tup (SqT.of (Cut.at (lvx.off ntp) htp)) (.cons (.str _) (.cons (.str _) (.cons (dP6.same c6x).dp (.cons (dp_same c6x dO6) (.cons (dT6.same c6x).dp (.cons (.lst (SqL.of (Cut.at oR (stp _ _ hr))) (dps_same (Cut.same stp) dr)) .nil))))))
        obtain ⟨ca, hCa, dCa⟩ := dC6.same (Cut.same s7)
        obtain ⟨oC, hC7⟩ := Cut.get hCa
        have lca : ca.length = cs.length := by rw [dps_len dCa, List.length_map]
        walk_at "my rn"
        refine ite2 (fun c1 => ?_) (fun c1 => ?_)
        · have n0 := of_decide_eq_true c1
          have pC : C ≠ p ∧ C ≠ c := ⟨fun z => oC (by rw [z]; exact hp), fun z => oC (by rw [z]; exact hc)⟩
          walk_at "my rn"
          refine ⟨p, c, 2, rfl, st7, by decide, by decide, fun u H8 u0 u1 st8 k8 => ?_⟩
          have hR8 := k8 _ _ pR.1 pR.2 hR
          have hC8 := k8 _ _ pC.1 pC.2 hC7
          have lv8 := lv7.keepS st8 k8
          walk_at "my rn"
          refine ite2 (fun c2 => ?_) (fun c2 => ?_)
          · walk_at "my rn"
            refine ⟨p, c, C, ca, rfl, st8, hC8, (by intro z; rw [z] at n0; exact absurd n0 (by decide)), by omega, pC.1, pC.2, fun y my H9 st9 k9 => ?_⟩
            have lv9 := lv8.keepS st9 k9
            have k79 := k8.trans k9
            have hR9 := k9 _ _ pR.1 pR.2 hR8
            obtain ⟨j, hj⟩ := List.getElem?_of_mem my
            obtain ⟨d, hd, dd⟩ := dp_at' dCa hj
            rw [List.getElem?_map] at hd
            obtain ⟨⟨ob, op, many⟩, hq, rfl⟩ : ∃ q, cs[j]? = some q ∧ callD q = d := by
              cases z : cs[j]? with
              | none => rw [z] at hd; cases hd
              | some nm => rw [z] at hd; exact ⟨nm, rfl, Option.some.inj hd⟩
            have mq := List.mem_of_getElem? hq
            have m2 : many ≤ 2 := lcs.2 _ mq
            obtain ⟨tq, ys, rfl, hty, dty⟩ := dpT (dp_same (cutK hp hc k79) dd)
            obtain ⟨v0, g0, rfl, d0, dty⟩ := dp1 dty
            obtain ⟨v1, g0, rfl, d1, dty⟩ := dp1 dty
            obtain ⟨v2, g0, rfl, d2, dty⟩ := dp1 dty
            cases dp0 dty; cases dpS d0; cases dpS d1; cases dpI d2
            have hty' := Same.seqT Cut.sub hty
            walk_at "my rn"
            refine ⟨p, c, 900, rfl, st9, by decide, by decide, fun u2 H10 v0 v1 st10 k10 => ?_⟩
            have lv10 := lv9.keepS st10 k10
            walk_at "my rn"
            refine ⟨by dsimp only; omega, by dsimp only; omega, fun Dx nD2 => ?_⟩
            have hR10 := k10 _ _ pR.1 pR.2 hR9
            have lvr := lv10.or hR10
            have SRp : (fun a => S a ∨ a = R1) p := .inl hp
            have SRc : (fun a => S a ∨ a = R1) c := .inl hc
            refine lc_drawD (K := K) (S := fun a => S a ∨ a = R1) SRp SRc lvr st10 nD2 (by show many ≤ 90000; omega) (fun i d => ∃ n : Int, d = .int n ∧ Word n) (fun i Hx Kt hi stx lvx kt => ?_) (fun H11 as ds ld gd dd hD2 st11 k11 => ?_)
            · simp only [List.map_cons, List.map_nil, L2.wipe, List.set_cons_succ, List.set_cons_zero]
              walk_at "my rn"
              refine ⟨rfl, ?_⟩
              walk_at "my rn"
              refine ⟨p, c, rfl, stx, fun n Hy wn sty ky => ?_⟩
              exact kt _ _ _ ⟨n, rfl, wn⟩ (.int _) sty ky
            · obtain ⟨args, rfl, hargs⟩ := pick_map PyData.int ds (fun i n => Word n) (fun i d e => by
                obtain ⟨q, a, b⟩ := gd i d e
                exact ⟨q, a, b⟩)
              have oD2 := lvr.off nD2
              have lv11 := lvr.keepS st11 k11
              have hR11 := k11 _ _ pR.1 pR.2 hR10
              walk_at "my rn"
              refine ⟨p, c, 900, rfl, st11, by decide, by decide, fun u3 H12 w0 w1 st12 k12 => ?_⟩
              have lv12 := lv11.keepS st12 k12
              walk_at "my rn"
              intro tr H13 n13 s13 h13
              have o13 := lv12.off n13
              have hR13 := s13 _ _ (k12 _ _ pR.1 pR.2 hR11)
              have c1113 := (cutK (S := fun a => S a ∨ a = R1) SRp SRc k12).trans (Cut.same s13)
              walk_at "my rn"
              refine Rd.app hR13 (by show 0 < sizeLine; decide) ?_
              have cf : Same (Cut (fun a => S a ∨ a = R1) H13) (Cut (fun a => S a ∨ a = R1) (upd H13 R1 (.lst ([] ++ [.ref tr])))) := Cut.upd (S := fun a => S a ∨ a = R1) (.inr rfl)
              have mS : Same (Cut (fun a => S a ∨ a = R1) (upd H13 R1 (.lst ([] ++ [.ref tr])))) (Cut S (upd H13 R1 (.lst ([] ++ [.ref tr])))) := Cut.mono fun a m => .inl m
              have lar : args.length = many := by
                rw [List.length_map] at ld
                exact ld
              walk_at "my rn"
              intro tp H' ntp stp htp
              refine fin [.ref tr] [⟨"alarm", .int (1 + u2 + u3), .int (1 + u2), ob, .str op, .list (args.map PyData.int)⟩] upd_same (.cons ?_ .nil) (by show 1 ≤ 1; decide) (fun t m => ?_) ((st12.same s13).upd pR.1 pR.2) (fun b o n1 n2 n3 e => ?_) tp H' ntp stp htp
              · exact .tup (SqT.of (mS _ _ (cf _ _ (Cut.at o13 h13)))) (.cons (.str _) (.cons (.str _) (.cons (.int _) (.cons (.int _) (.cons (.str _) (.cons (.str _) (.cons (.lst (SqL.of ((c1113.trans (cf.trans mS)) _ _ (Cut.at oD2 hD2))) (dps_same (c1113.trans (cf.trans mS)) dd)) .nil)))))))
              · rw [List.mem_singleton] at m
                subst m
                exact ⟨rfl, op, many, 1 + u2, 1 + u2 + u3, args, mq, by omega, by omega, by omega, by omega, rfl, rfl, rfl, rfl, lar, fun a ma => by
                  obtain ⟨j, hj⟩ := List.getElem?_of_mem ma
                  exact hargs j a hj⟩
              · rw [upd_ne n3]
                exact s13 _ _ (k12 _ _ n1 n2 (k11 _ _ n1 n2 (k10 _ _ n1 n2 (k9 _ _ n1 n2 (k8 _ _ n1 n2 e)))))
          · walk_at "my rn"
            intro tp H' ntp stp htp
            exact fin [] [] hR8 .nil (by show 0 ≤ 1; decide) (by simp) st8 (fun b o n1 n2 _ e => k8 _ _ n1 n2 e) tp H' ntp stp htp
        · walk_at "my rn"
          intro tp H' ntp stp htp
          exact fin [] [] hR .nil (by show 0 ≤ 1; decide) (by simp) st7 (fun b o _ _ _ e => e) tp H' ntp stp htp
end

end Mine

set_option Elab.async false
set_option linter.all false
set_option maxRecDepth 100000
set_option maxHeartbeats 1000000

--@@rec _law_expr _law_body _law_statement _copied _copied_statement _law_names

--@@guards
namespace Mine
open PySem PySem.Spec PyProof.Rows L2
local macro_rules | `(tactic| walk_at "my rn") => `(tactic| (repeat (first | with_reducible refine Rd.catQI ?_ | with_reducible refine Rd.revN ?_ | with_reducible refine Rd.lzip ?_ | with_reducible refine Rd.fld ?_ | with_reducible refine Rd.sfld ?_ | with_reducible refine Rd.meth ?_ | with_reducible refine Rd.make ?_ | with_reducible refine Rd.izip ?_ | with_reducible refine Rd.tupN ?_ | with_reducible refine Rd.lstN ?_ | with_reducible refine Rd.cbListOf ?_ | with_reducible refine Rd.cbListOfR ?_ | with_reducible refine Rd.catI ?_ | with_reducible refine Rd.slN ?_ | with_reducible refine Rd.cbSrtI ?_ | with_reducible refine Rd.seq ?_ | with_reducible refine Rd.next ?_ | with_reducible refine Rd.brk ?_ | with_reducible refine Rd.cont ?_ | with_reducible refine Rd.asg ?_ | with_reducible refine Rd.ret ?_ | with_reducible refine Rd.retN ?_ | with_reducible refine Rd.drop ?_ | with_reducible refine Rd.ifs ?_ | with_reducible refine Rd.ife ?_ | with_reducible refine Rd.test ?_ | with_reducible refine Rd.tb_ ?_ | with_reducible refine Rd.bl ?_ | with_reducible refine Rd.bl2 ?_ | with_reducible refine Rd.and_ ?_ | with_reducible refine Rd.or_ ?_ | with_reducible refine Rd.not_ ?_ | with_reducible refine Rd.andV ?_ | with_reducible refine Rd.orV ?_ | with_reducible refine Rd.notV ?_ | with_reducible refine Rd.op ?_ | with_reducible refine Rd.un ?_ | with_reducible refine Rd.I0 ?_ | with_reducible refine Rd.U ?_ | with_reducible refine Rd.ip ?_ | with_reducible refine Rd.c_ ?_ | with_reducible refine Rd.nil ?_ | with_reducible refine Rd.cons ?_ | with_reducible refine Rd.call ?_ | with_reducible refine Rd.cb ?_ | with_reducible refine Rd.bm ?_ | with_reducible refine Rd.bm0 ?_ | with_reducible refine Rd.nopart ?_ | with_reducible refine Rd.part ?_ | with_reducible refine Rd.int1 ?_ | with_reducible refine Rd.ints1 ?_ | with_reducible refine Rd.ints2 ?_ | with_reducible refine Rd.gcons ?_ | with_reducible refine Rd.gnil ?_ | with_reducible refine Rd.sub ?_ | with_reducible refine Rd.isN ?_ | with_reducible refine Rd.chain ?_ | with_reducible refine Rd.rf ?_ | with_reducible refine Rd.tyS ?_ | with_reducible refine Rd.intI ?_ | with_reducible refine Rd.lc ?_ | with_reducible refine Rd.for_ ?_ | with_reducible refine Rd.ilist ?_ | with_reducible refine Rd.itup ?_ | with_reducible refine Rd.irng1 ?_ | with_reducible refine Rd.irng2 ?_ | with_reducible refine Rd.ienum ?_ | with_reducible refine Rd.istr ?_ | with_reducible refine Rd.refA ?_ | with_reducible refine Rd.strA ?_ | with_reducible refine Rd.yes ?_ | with_reducible refine Rd.ifT ?_ | with_reducible refine Rd.ifF ?_ | with_reducible refine Rd.ifnT ?_ | with_reducible refine Rd.ifnF ?_ | with_reducible refine Rd.isi_ii ?_ | with_reducible refine Rd.isi_ib ?_ | with_reducible refine Rd.isi_is ?_ | with_reducible refine Rd.isi_il ?_ | with_reducible refine Rd.isi_it ?_ | with_reducible refine Rd.isi_id ?_ | with_reducible refine Rd.isi_bi ?_ | with_reducible refine Rd.isi_bb ?_ | with_reducible refine Rd.isi_bs ?_ | with_reducible refine Rd.isi_bl ?_ | with_reducible refine Rd.isi_bt ?_ | with_reducible refine Rd.isi_bd ?_ | with_reducible refine Rd.isi_si ?_ | with_reducible refine Rd.isi_sb ?_ | with_reducible refine Rd.isi_ss ?_ | with_reducible refine Rd.isi_sl ?_ | with_reducible refine Rd.isi_st ?_ | with_reducible refine Rd.isi_sd ?_ | with_reducible refine Rd.isi_ni ?_ | with_reducible refine Rd.isi_nb ?_ | with_reducible refine Rd.isi_ns ?_ | with_reducible refine Rd.isi_nl ?_ | with_reducible refine Rd.isi_nt ?_ | with_reducible refine Rd.isi_nd ?_ | with_reducible refine Rd.sl ?_ | with_reducible refine Rd.v0 ?_ | with_reducible refine Rd.v1 ?_ | with_reducible refine Rd.v2 ?_ | with_reducible refine Rd.v3 ?_ | with_reducible refine Rd.v4 ?_ | with_reducible refine Rd.v5 ?_ | with_reducible refine Rd.v6 ?_ | with_reducible refine Rd.v7 ?_ | with_reducible refine Rd.v8 ?_ | with_reducible refine Rd.v9 ?_ | with_reducible refine Rd.v10 ?_ | with_reducible refine Rd.v11 ?_ | with_reducible refine Rd.v12 ?_ | with_reducible refine Rd.v13 ?_ | with_reducible refine Rd.v14 ?_ | with_reducible refine Rd.v15 ?_ | with_reducible refine Rd.n0 ?_ | with_reducible refine Rd.n1 ?_ | with_reducible refine Rd.n2 ?_ | with_reducible refine Rd.n3 ?_ | with_reducible refine Rd.n4 ?_ | with_reducible refine Rd.n5 ?_ | with_reducible refine Rd.n6 ?_ | with_reducible refine Rd.n7 ?_ | with_reducible refine Rd.n8 ?_ | with_reducible refine Rd.n9 ?_ | with_reducible refine Rd.n10 ?_ | with_reducible refine Rd.n11 ?_ | with_reducible refine Rd.n12 ?_ | with_reducible refine Rd.n13 ?_ | with_reducible refine Rd.n14 ?_ | with_reducible refine Rd.n15 ?_ | with_reducible refine Rd.g0 ?_ | with_reducible refine Rd.g1 ?_ | with_reducible refine Rd.g2 ?_ | with_reducible refine Rd.g3 ?_ | with_reducible refine Rd.g4 ?_ | with_reducible refine Rd.g5 ?_ | with_reducible refine Rd.g6 ?_ | with_reducible refine Rd.g7 ?_ | with_reducible refine Rd.g8 ?_ | with_reducible refine Rd.g9 ?_ | with_reducible refine Rd.g10 ?_ | with_reducible refine Rd.g11 ?_ | with_reducible refine Rd.g12 ?_ | with_reducible refine Rd.g13 ?_ | with_reducible refine Rd.g14 ?_ | with_reducible refine Rd.g15 ?_ | ((with_reducible apply Rd.glst); (first | assumption | exact upd_same); exact rfl) | ((with_reducible apply Rd.gtP); assumption; assumption) | ((with_reducible apply Rd.revq); first | assumption | exact SqL.of (by assumption)) | ((with_reducible apply Rd.fldI); (first | assumption | exact upd_same); assumption; assumption; (first | assumption | with_unfolding_all rfl)) | ((with_reducible apply Rd.methI); (first | assumption | exact upd_same); (first | assumption | with_unfolding_all rfl)) | ((with_reducible apply Rd.sfldI); (first | assumption | exact upd_same); assumption; assumption; exact Nat.le_of_ble_eq_true rfl) | ((with_reducible apply Rd.maxL); assumption) | ((with_reducible apply Rd.anyL); assumption) | ((with_reducible apply Rd.sumL); assumption) | ((with_reducible refine Rd.izI (by assumption) (by assumption) ?_)) | ((with_reducible refine Rd.eq ?_ ?_); exact rfl) | ((with_reducible refine Rd.ne ?_ ?_); exact rfl) | ((with_reducible refine Rd.szA ?_ ?_); exact Nat.le_of_ble_eq_true rfl) | ((with_reducible refine Rd.I ?_ ?_); first | assumption | decide | exact Or.inr (by decide +kernel) | exact Or.inl (by decide +kernel) | exact ⟨by decide, by decide⟩ | exact ⟨by decide, by decide, by decide⟩ | omega) | ((with_reducible apply Rd.tyL); first | assumption | exact upd_same) | ((with_reducible apply Rd.tyLq); assumption) | ((with_reducible apply Rd.ixL); (first | assumption | exact upd_same); exact rfl) | ((with_reducible apply Rd.ixT); (first | assumption | exact upd_same); exact rfl) | ((with_reducible apply Rd.ixLq); assumption; exact rfl) | ((with_reducible apply Rd.ixTq); assumption; exact rfl) | ((with_reducible apply Rd.gtup); (first | assumption | exact upd_same); exact rfl) | ((with_reducible apply Rd.gtupq); assumption; exact rfl) | ((with_reducible apply Rd.sqAq); assumption) | ((with_reducible apply Rd.stAq); assumption) | ((with_reducible apply Rd.enAq); assumption) | ((with_reducible apply Rd.lenLq); assumption) | ((with_reducible apply Rd.lenTq); assumption) | ((with_reducible apply Rd.sqA); first | assumption | exact upd_same) | ((with_reducible apply Rd.stA); first | assumption | exact upd_same) | ((with_reducible apply Rd.enA); first | assumption | exact upd_same) | ((with_reducible apply Rd.lenL); first | assumption | exact upd_same) | ((with_reducible apply Rd.lenT); first | assumption | exact upd_same) | ((with_reducible refine Rd.nwT ?_ ?_); exact Nat.le_of_ble_eq_true rfl) | ((with_reducible refine Rd.nwL ?_ ?_); exact Nat.le_of_ble_eq_true rfl) | ((with_reducible apply Rd.listOf); assumption) | ((with_reducible apply Rd.listOfq); assumption) | ((with_reducible apply Rd.slo); assumption) | ((with_reducible apply Rd.slq); assumption) | ((with_reducible apply Rd.srtI); assumption) | ((with_reducible apply Rd.srtIo); assumption) | ((with_reducible refine Rd.isi_li (by assumption) ?_)) | ((with_reducible refine Rd.isi_lb (by assumption) ?_)) | ((with_reducible refine Rd.isi_ls (by assumption) ?_)) | ((with_reducible refine Rd.isi_ll (by assumption) ?_)) | ((with_reducible refine Rd.isi_lt (by assumption) ?_)) | ((with_reducible refine Rd.isi_ld (by assumption) ?_)) | ((with_reducible refine Rd.isi_ti (by assumption) ?_)) | ((with_reducible refine Rd.isi_tb (by assumption) ?_)) | ((with_reducible refine Rd.isi_ts (by assumption) ?_)) | ((with_reducible refine Rd.isi_tl (by assumption) ?_)) | ((with_reducible refine Rd.isi_tt (by assumption) ?_)) | ((with_reducible refine Rd.isi_td (by assumption) ?_)))))

/-! ### the names that a body calls -/
theorem callsN_app (a b : List Stm) : callsN (a ++ b) = callsN a ++ callsN b := by
  unfold callsN
  rw [flats_app, List.filterMap_append]
theorem callsN_one (s : Stm) : callsN [s] = (callN s).toList ++ callsN s.kids := by
  unfold callsN
  have e : flats [s] = s :: flats s.kids := by
    show s.flat ++ [] = _
    rw [List.append_nil, flat_kids]
  rw [e]
  cases h : callN s <;> simp [h]
theorem callsN_take {b : List Stm} {i : Nat} {s : Stm} (h : b[i]? = some s) : callsN (b.take (i + 1)) = callsN (b.take i) ++ callsN [s] := by
  rw [List.take_succ, h, callsN_app]; rfl
theorem callsN_len (b : List Stm) : (callsN b).length ≤ (flats b).length := by
  unfold callsN
  exact List.length_filterMap_le _ _
theorem callsN_take_len (b : List Stm) (i : Nat) : (callsN (b.take i)).length ≤ (flats b).length := by
  have h : callsN b = callsN (b.take i) ++ callsN (b.drop i) := by rw [← callsN_app, List.take_append_drop]
  have := callsN_len b
  rw [h, List.length_append] at this
  omega
section
variable {P : Program} {w : World} {K : PySem.W.Frag} {mg : Str → Option Value} {base : Heap}
def sp__law_names (K : PySem.W.Frag) (n : Nat) : Sp := fun vs H Q _ => ∃ (v : V) (b : List Stm), vs = [v] ∧ Dp K H v (.list (stmsD b)) ∧ nests b ≤ n ∧ (flats b).length ≤ 30000 ∧
  ∀ (L : Addr) (H' : Hp), Same H H' → H L = none → H' L = some (.lst ((callsN b).map V.str)) → Q (.ref L) H'
theorem step__law_names (T : Top K mg) {d n : Nat} {sp' : Sp} (ih : FnOk P w K mg base CX0 (3 + d) T.a__law_names T.d__law_names ["body"] sp') (imp : ∀ (n' : Nat) vs H Q E, n = n' + 1 → sp__law_names K n' vs H Q E → sp' vs H Q E) :
    FnOk P w K mg base CX0 (3 + d + 1) T.a__law_names T.d__law_names ["body"] (sp__law_names K n) := by
  refine T.F__law_names.ok sc__law_names (fun vs H Q E h => ?_) (fun cdv A outer s H vs Q E hr h => ?_)
  · obtain ⟨_, _, rfl, _⟩ := h
    rfl
  · obtain ⟨v, b, rfl, dv, ne, sm, q⟩ := h
    refine ⟨_, (pss_cons (ps_set (i := 1) sc__law_names.nd rfl (by first | exact Or.inl rfl | exact Or.inr rfl) (pe_lst pa_nil))
  (pss_cons (ps_for PassesOwn.never rfl (pi_list (pv 0)) (pg_name (i := 2) sc__law_names.nd rfl (by first | exact Or.inl rfl | exact Or.inr rfl))
  (pss_cons (ps_if (pt_cmpR op_eq (pe_ix ix_tup (pv 2) pe_int (fun _ _ => rfl)) pe_str (nomark _))
  (pss_one (ps_expr (pe_bm PySem.F.plainAttrs_list PySem.F.slot_list_append PySem.F.type_list_append mt_append (pv 1) (pa_cons (pe_ix ix_tup (pv 2) pe_int (fun _ _ => rfl)) pa_nil))))
  pss_nil)
  (pss_cons (ps_if (pt_cmpR op_eq (pe_ix ix_tup (pv 2) pe_int (fun _ _ => rfl)) pe_str (nomark _))
  (pss_one (ps_set (i := 1) sc__law_names.nd rfl (by first | exact Or.inl rfl | exact Or.inr rfl) (pe_op op_catQ (pe_op op_catQ (pv 1) (pe_call ih (hr.mono (by show _ ≤ 3 + d; omega)) (by rfl) T.g__law_names T.F__law_names.kp T.b__law_names .nil pass0 (pa_cons (pe_ix ix_tup (pv 2) pe_int (fun _ _ => rfl)) pa_nil))) (pe_call ih (hr.mono (by show _ ≤ 3 + d; omega)) (by rfl) T.g__law_names T.F__law_names.kp T.b__law_names .nil pass0 (pa_cons (pe_ix ix_tup (pv 2) pe_int (fun _ _ => rfl)) pa_nil)))))
  pss_nil)
  (pss_one (ps_if (pt_cmpR op_eq (pe_ix ix_tup (pv 2) pe_int (fun _ _ => rfl)) pe_str (nomark _))
  (pss_one (ps_set (i := 1) sc__law_names.nd rfl (by first | exact Or.inl rfl | exact Or.inr rfl) (pe_op op_catQ (pv 1) (pe_call ih (hr.mono (by show _ ≤ 3 + d; omega)) (by rfl) T.g__law_names T.F__law_names.kp T.b__law_names .nil pass0 (pa_cons (pe_ix ix_tup (pv 2) pe_int (fun _ _ => rfl)) pa_nil)))))
  pss_nil)))))
  (pss_one (ps_ret (pv 1))))), ?_⟩
    obtain ⟨t, xs, rfl, hx, ha⟩ := dpL dv
    have lx : xs.length = b.length := by rw [dps_len ha, stmsD_map, List.length_map]
    have lb := flats_len b
    rw [show ∀ a0 : V, L2.start ["body", "names", "statement"] [a0] = [some a0, none, none] from fun _ => rfl]
    walk_at "my rn"
    intro A0 H1 n1 s1 h1
    walk_at "my rn"
    refine ⟨⟨xs, s1.seq hx⟩, for_it (walk_list (xs := xs)) (fun i σ H' => ∃ (A : Addr) (y2 : Option V), σ = [some (.ref t), some (.ref A), y2] ∧ H A = none ∧ H' A = some (.lst ((callsN (b.take i)).map V.str)) ∧ Same H H')
      ⟨A0, none, rfl, n1, h1, s1⟩ (fun i σ H' _ ⟨_, _, _, _, _, s⟩ => s.seq hx) ?_ ?_⟩
    · rintro i x σ H2o H2 hi ⟨A, y2, rfl, nA, hA, s2⟩ ⟨rfl, hxi⟩
      obtain ⟨d', e, dd⟩ := dp_at' ha hxi
      obtain ⟨s, es, rfl⟩ : ∃ s, b[i]? = some s ∧ s.d = d' := by
        rw [stmsD_map, List.getElem?_map] at e
        cases z : b[i]? with
        | none => rw [z] at e; cases e
        | some s => rw [z] at e; exact ⟨s, rfl, Option.some.inj e⟩
      have ms := List.mem_of_getElem? es
      have sn := nests_mem ms
      have sf := flats_mem ms
      have tk := callsN_take es
      have tl := callsN_take_len b i
      have upA : ∀ {Hx : Hp} {o : HO}, Same H Hx → Same H (upd Hx A o) := fun s b o e => by rw [upd_ne (fun z => by rw [z, nA] at e; cases e)]; exact s b o e
      cases s with
      | set p e =>
        rw [callsN_one] at tk
        obtain ⟨t, xs, rfl, hx, ha⟩ := dpT dd
        obtain ⟨v0, x0, rfl, d0, ha⟩ := dp1 ha
        obtain ⟨v1, x0, rfl, d1, ha⟩ := dp1 ha
        obtain ⟨v2, x0, rfl, d2, ha⟩ := dp1 ha
        cases dp0 ha; cases dpS d0
        have hx2 := Same.seqT s2 hx
        walk_at "my rn"
        refine Rd.ifD (fun z => absurd (V.str.inj z) (by decide +kernel)) fun _ => ?_
        walk_at "my rn"
        refine Rd.ifD (fun z => absurd (V.str.inj z) (by decide +kernel)) fun _ => ?_
        walk_at "my rn"
        refine Rd.ifD (fun z => absurd (V.str.inj z) (by decide +kernel)) fun _ => ?_
        walk_at "my rn"
        refine ⟨A, _, rfl, nA, ?_, s2⟩
        rw [tk]
        simpa [callN, Stm.kids, callsN, flats] using hA
      | read p e =>
        rw [callsN_one] at tk
        obtain ⟨t, xs, rfl, hx, ha⟩ := dpT dd
        obtain ⟨v0, x0, rfl, d0, ha⟩ := dp1 ha
        obtain ⟨v1, x0, rfl, d1, ha⟩ := dp1 ha
        obtain ⟨v2, x0, rfl, d2, ha⟩ := dp1 ha
        cases dp0 ha; cases dpS d0
        have hx2 := Same.seqT s2 hx
        walk_at "my rn"
        refine Rd.ifD (fun z => absurd (V.str.inj z) (by decide +kernel)) fun _ => ?_
        walk_at "my rn"
        refine Rd.ifD (fun z => absurd (V.str.inj z) (by decide +kernel)) fun _ => ?_
        walk_at "my rn"
        refine Rd.ifD (fun z => absurd (V.str.inj z) (by decide +kernel)) fun _ => ?_
        walk_at "my rn"
        refine ⟨A, _, rfl, nA, ?_, s2⟩
        rw [tk]
        simpa [callN, Stm.kids, callsN, flats] using hA
      | write p e =>
        rw [callsN_one] at tk
        obtain ⟨t, xs, rfl, hx, ha⟩ := dpT dd
        obtain ⟨v0, x0, rfl, d0, ha⟩ := dp1 ha
        obtain ⟨v1, x0, rfl, d1, ha⟩ := dp1 ha
        obtain ⟨v2, x0, rfl, d2, ha⟩ := dp1 ha
        cases dp0 ha; cases dpS d0
        have hx2 := Same.seqT s2 hx
        walk_at "my rn"
        refine Rd.ifD (fun z => absurd (V.str.inj z) (by decide +kernel)) fun _ => ?_
        walk_at "my rn"
        refine Rd.ifD (fun z => absurd (V.str.inj z) (by decide +kernel)) fun _ => ?_
        walk_at "my rn"
        refine Rd.ifD (fun z => absurd (V.str.inj z) (by decide +kernel)) fun _ => ?_
        walk_at "my rn"
        refine ⟨A, _, rfl, nA, ?_, s2⟩
        rw [tk]
        simpa [callN, Stm.kids, callsN, flats] using hA
      | call p o op as =>
        rw [callsN_one] at tk
        obtain ⟨t, xs, rfl, hx, ha⟩ := dpT dd
        obtain ⟨v0, x0, rfl, d0, ha⟩ := dp1 ha
        obtain ⟨v1, x0, rfl, d1, ha⟩ := dp1 ha
        obtain ⟨v2, x0, rfl, d2, ha⟩ := dp1 ha
        obtain ⟨v3, x0, rfl, d3, ha⟩ := dp1 ha
        obtain ⟨v4, x0, rfl, d4, ha⟩ := dp1 ha
        cases dp0 ha; cases dpS d0; cases dpS d2
        have hx2 := Same.seqT s2 hx
        have hx3 := Same.seqT (upA s2 (o := .lst ((callsN (List.take i b)).map V.str ++ [.str o]))) hx
        walk_at "my rn"
        refine Rd.ifD (fun _ => ?_) fun z => absurd rfl z
        walk_at "my rn"
        refine Rd.app hA (by rw [List.length_map]; exact Rd.szl (by omega)) ?_
        walk_at "my rn"
        refine Rd.ifD (fun z => absurd (V.str.inj z) (by decide +kernel)) fun _ => ?_
        walk_at "my rn"
        refine Rd.ifD (fun z => absurd (V.str.inj z) (by decide +kernel)) fun _ => ?_
        walk_at "my rn"
        refine ⟨A, _, rfl, nA, ?_, upA s2⟩
        rw [tk, List.map_append]
        exact upd_same
      | ifs ex a b' =>
        rw [callsN_one] at tk
        obtain ⟨t, xs, rfl, hx, ha⟩ := dpT dd
        obtain ⟨v0, x0, rfl, d0, ha⟩ := dp1 ha
        obtain ⟨v1, x0, rfl, d1, ha⟩ := dp1 ha
        obtain ⟨v2, x0, rfl, d2, ha⟩ := dp1 ha
        obtain ⟨v3, x0, rfl, d3, ha⟩ := dp1 ha
        cases dp0 ha; cases dpS d0
        have hx2 := Same.seqT s2 hx
        have nn : (Stm.ifs ex a b').nest = 1 + max (nests a) (nests b') := by unfold Stm.nest; rfl
        have ff : (Stm.ifs ex a b').flat.length = 1 + ((flats a).length + (flats b').length) := by rw [flat_kids]; simp only [Stm.kids, flats_app, List.length_cons, List.length_append]; omega
        obtain ⟨n', rfl⟩ : ∃ n', n = n' + 1 := ⟨n - 1, by omega⟩
        have la := callsN_len a
        have lb' := callsN_len b'
        walk_at "my rn"
        refine Rd.ifD (fun z => absurd (V.str.inj z) (by decide +kernel)) fun _ => ?_
        walk_at "my rn"
        refine Rd.ifD (fun _ => ?_) fun z => absurd rfl z
        walk_at "my rn"
        refine imp n' _ _ _ _ rfl ⟨v2, a, rfl, dp_same s2 d2, by omega, by omega, fun L3 H3 s3 n3 h3 => ?_⟩
        walk_at "my rn"
        refine Rd.catQ (SqL.of (s3 _ _ hA)) (SqL.of h3) (by rw [List.length_map, List.length_map]; omega) fun L4 H4 n4 s4 h4 => ?_
        have s24 := s2.trans (s3.trans s4)
        have hx4 := Same.seqT s24 hx
        walk_at "my rn"
        refine imp n' _ _ _ _ rfl ⟨v3, b', rfl, dp_same s24 d3, by omega, by omega, fun L5 H5 s5 n5 h5 => ?_⟩
        walk_at "my rn"
        refine Rd.catQ (SqL.of (s5 _ _ h4)) (SqL.of h5) (by rw [List.length_append, List.length_map, List.length_map, List.length_map]; omega) fun L6 H6 n6 s6 h6 => ?_
        have hx6 := Same.seqT (s24.trans (s5.trans s6)) hx
        walk_at "my rn"
        refine Rd.ifD (fun z => absurd (V.str.inj z) (by decide +kernel)) fun _ => ?_
        walk_at "my rn"
        refine ⟨L6, _, rfl, (s24.trans s5).free n6, ?_, s24.trans (s5.trans s6)⟩
        rw [tk, List.map_append, h6]
        simp only [callN, Stm.kids, callsN_app, List.map_append, Option.toList, List.nil_append, List.append_assoc]
      | loop nm k ex b' =>
        rw [callsN_one] at tk
        obtain ⟨t, xs, rfl, hx, ha⟩ := dpT dd
        obtain ⟨v0, x0, rfl, d0, ha⟩ := dp1 ha
        obtain ⟨v1, x0, rfl, d1, ha⟩ := dp1 ha
        obtain ⟨v2, x0, rfl, d2, ha⟩ := dp1 ha
        obtain ⟨v3, x0, rfl, d3, ha⟩ := dp1 ha
        obtain ⟨v4, x0, rfl, d4, ha⟩ := dp1 ha
        cases dp0 ha; cases dpS d0
        have hx2 := Same.seqT s2 hx
        have nn : (Stm.loop nm k ex b').nest = 1 + nests b' := by unfold Stm.nest; rfl
        have ff : (Stm.loop nm k ex b').flat.length = 1 + (flats b').length := by rw [flat_kids]; simp only [Stm.kids, List.length_cons]; omega
        obtain ⟨n', rfl⟩ : ∃ n', n = n' + 1 := ⟨n - 1, by omega⟩
        have lb' := callsN_len b'
        walk_at "my rn"
        refine Rd.ifD (fun z => absurd (V.str.inj z) (by decide +kernel)) fun _ => ?_
        walk_at "my rn"
        refine Rd.ifD (fun z => absurd (V.str.inj z) (by decide +kernel)) fun _ => ?_
        walk_at "my rn"
        refine Rd.ifD (fun _ => ?_) fun z => absurd rfl z
        walk_at "my rn"
        refine imp n' _ _ _ _ rfl ⟨v4, b', rfl, dp_same s2 d4, by omega, by omega, fun L3 H3 s3 n3 h3 => ?_⟩
        walk_at "my rn"
        refine Rd.catQ (SqL.of (s3 _ _ hA)) (SqL.of h3) (by rw [List.length_map, List.length_map]; omega) fun L4 H4 n4 s4 h4 => ?_
        have s24 := s2.trans (s3.trans s4)
        walk_at "my rn"
        refine ⟨L4, _, rfl, (s2.trans s3).free n4, ?_, s24⟩
        rw [tk, List.map_append, h4]
        simp only [callN, Stm.kids, Option.toList, List.nil_append]
    · rintro σ H2 ⟨A, y2, rfl, nA, hA, s2⟩
      walk_at "my rn"
      refine q A H2 s2 nA ?_
      rw [hA, lx, List.take_length]
theorem okd__law_names (T : Top K mg) : ∀ d : Nat, FnOk P w K mg base CX0 (3 + d + 1) T.a__law_names T.d__law_names ["body"] (sp__law_names K d)
  | 0 => step__law_names T (d := 0) (n := 0) (sp' := fun _ _ _ _ => False) ⟨fun _ _ _ _ h => h.elim, fun _ _ _ _ _ _ _ _ _ _ _ _ _ h => h.elim⟩ fun d' _ _ _ _ h => absurd h.symm (Nat.succ_ne_zero d')
  | d + 1 => step__law_names T (d := d + 1) (n := d + 1) (okd__law_names T d) fun d' vs H Q E h z => by
    cases h
    exact z
theorem ok__law_names (T : Top K mg) : FnOk P w K mg base CX0 7 T.a__law_names T.d__law_names ["body"] (sp__law_names K 3) := okd__law_names T 3
end

end Mine

set_option Elab.async false
set_option linter.all false
set_option maxRecDepth 100000
set_option maxHeartbeats 1000000

--@@rec _law_expr _law_body _law_statement _copied _copied_statement _law_names

--@@guards
namespace Mine
open PySem PySem.Spec PyProof.Rows L2
local macro_rules | `(tactic| walk_at "my rn") => `(tactic| (repeat (first | with_reducible refine Rd.catQI ?_ | with_reducible refine Rd.revN ?_ | with_reducible refine Rd.lzip ?_ | with_reducible refine Rd.fld ?_ | with_reducible refine Rd.sfld ?_ | with_reducible refine Rd.meth ?_ | with_reducible refine Rd.make ?_ | with_reducible refine Rd.izip ?_ | with_reducible refine Rd.tupN ?_ | with_reducible refine Rd.lstN ?_ | with_reducible refine Rd.cbListOf ?_ | with_reducible refine Rd.cbListOfR ?_ | with_reducible refine Rd.catI ?_ | with_reducible refine Rd.slN ?_ | with_reducible refine Rd.cbSrtI ?_ | with_reducible refine Rd.seq ?_ | with_reducible refine Rd.next ?_ | with_reducible refine Rd.brk ?_ | with_reducible refine Rd.cont ?_ | with_reducible refine Rd.asg ?_ | with_reducible refine Rd.ret ?_ | with_reducible refine Rd.retN ?_ | with_reducible refine Rd.drop ?_ | with_reducible refine Rd.ifs ?_ | with_reducible refine Rd.ife ?_ | with_reducible refine Rd.test ?_ | with_reducible refine Rd.tb_ ?_ | with_reducible refine Rd.bl ?_ | with_reducible refine Rd.bl2 ?_ | with_reducible refine Rd.and_ ?_ | with_reducible refine Rd.or_ ?_ | with_reducible refine Rd.not_ ?_ | with_reducible refine Rd.andV ?_ | with_reducible refine Rd.orV ?_ | with_reducible refine Rd.notV ?_ | with_reducible refine Rd.op ?_ | with_reducible refine Rd.un ?_ | with_reducible refine Rd.I0 ?_ | with_reducible refine Rd.U ?_ | with_reducible refine Rd.ip ?_ | with_reducible refine Rd.c_ ?_ | with_reducible refine Rd.nil ?_ | with_reducible refine Rd.cons ?_ | with_reducible refine Rd.call ?_ | with_reducible refine Rd.cb ?_ | with_reducible refine Rd.bm ?_ | with_reducible refine Rd.bm0 ?_ | with_reducible refine Rd.nopart ?_ | with_reducible refine Rd.part ?_ | with_reducible refine Rd.int1 ?_ | with_reducible refine Rd.ints1 ?_ | with_reducible refine Rd.ints2 ?_ | with_reducible refine Rd.gcons ?_ | with_reducible refine Rd.gnil ?_ | with_reducible refine Rd.sub ?_ | with_reducible refine Rd.isN ?_ | with_reducible refine Rd.chain ?_ | with_reducible refine Rd.rf ?_ | with_reducible refine Rd.tyS ?_ | with_reducible refine Rd.intI ?_ | with_reducible refine Rd.lc ?_ | with_reducible refine Rd.for_ ?_ | with_reducible refine Rd.ilist ?_ | with_reducible refine Rd.itup ?_ | with_reducible refine Rd.irng1 ?_ | with_reducible refine Rd.irng2 ?_ | with_reducible refine Rd.ienum ?_ | with_reducible refine Rd.istr ?_ | with_reducible refine Rd.refA ?_ | with_reducible refine Rd.strA ?_ | with_reducible refine Rd.yes ?_ | with_reducible refine Rd.ifT ?_ | with_reducible refine Rd.ifF ?_ | with_reducible refine Rd.ifnT ?_ | with_reducible refine Rd.ifnF ?_ | with_reducible refine Rd.isi_ii ?_ | with_reducible refine Rd.isi_ib ?_ | with_reducible refine Rd.isi_is ?_ | with_reducible refine Rd.isi_il ?_ | with_reducible refine Rd.isi_it ?_ | with_reducible refine Rd.isi_id ?_ | with_reducible refine Rd.isi_bi ?_ | with_reducible refine Rd.isi_bb ?_ | with_reducible refine Rd.isi_bs ?_ | with_reducible refine Rd.isi_bl ?_ | with_reducible refine Rd.isi_bt ?_ | with_reducible refine Rd.isi_bd ?_ | with_reducible refine Rd.isi_si ?_ | with_reducible refine Rd.isi_sb ?_ | with_reducible refine Rd.isi_ss ?_ | with_reducible refine Rd.isi_sl ?_ | with_reducible refine Rd.isi_st ?_ | with_reducible refine Rd.isi_sd ?_ | with_reducible refine Rd.isi_ni ?_ | with_reducible refine Rd.isi_nb ?_ | with_reducible refine Rd.isi_ns ?_ | with_reducible refine Rd.isi_nl ?_ | with_reducible refine Rd.isi_nt ?_ | with_reducible refine Rd.isi_nd ?_ | with_reducible refine Rd.sl ?_ | with_reducible refine Rd.v0 ?_ | with_reducible refine Rd.v1 ?_ | with_reducible refine Rd.v2 ?_ | with_reducible refine Rd.v3 ?_ | with_reducible refine Rd.v4 ?_ | with_reducible refine Rd.v5 ?_ | with_reducible refine Rd.v6 ?_ | with_reducible refine Rd.v7 ?_ | with_reducible refine Rd.v8 ?_ | with_reducible refine Rd.v9 ?_ | with_reducible refine Rd.v10 ?_ | with_reducible refine Rd.v11 ?_ | with_reducible refine Rd.v12 ?_ | with_reducible refine Rd.v13 ?_ | with_reducible refine Rd.v14 ?_ | with_reducible refine Rd.v15 ?_ | with_reducible refine Rd.n0 ?_ | with_reducible refine Rd.n1 ?_ | with_reducible refine Rd.n2 ?_ | with_reducible refine Rd.n3 ?_ | with_reducible refine Rd.n4 ?_ | with_reducible refine Rd.n5 ?_ | with_reducible refine Rd.n6 ?_ | with_reducible refine Rd.n7 ?_ | with_reducible refine Rd.n8 ?_ | with_reducible refine Rd.n9 ?_ | with_reducible refine Rd.n10 ?_ | with_reducible refine Rd.n11 ?_ | with_reducible refine Rd.n12 ?_ | with_reducible refine Rd.n13 ?_ | with_reducible refine Rd.n14 ?_ | with_reducible refine Rd.n15 ?_ | with_reducible refine Rd.g0 ?_ | with_reducible refine Rd.g1 ?_ | with_reducible refine Rd.g2 ?_ | with_reducible refine Rd.g3 ?_ | with_reducible refine Rd.g4 ?_ | with_reducible refine Rd.g5 ?_ | with_reducible refine Rd.g6 ?_ | with_reducible refine Rd.g7 ?_ | with_reducible refine Rd.g8 ?_ | with_reducible refine Rd.g9 ?_ | with_reducible refine Rd.g10 ?_ | with_reducible refine Rd.g11 ?_ | with_reducible refine Rd.g12 ?_ | with_reducible refine Rd.g13 ?_ | with_reducible refine Rd.g14 ?_ | with_reducible refine Rd.g15 ?_ | ((with_reducible apply Rd.glst); (first | assumption | exact upd_same); exact rfl) | ((with_reducible apply Rd.gtP); assumption; assumption) | ((with_reducible apply Rd.revq); first | assumption | exact SqL.of (by assumption)) | ((with_reducible apply Rd.fldI); (first | assumption | exact upd_same); assumption; assumption; (first | assumption | with_unfolding_all rfl)) | ((with_reducible apply Rd.methI); (first | assumption | exact upd_same); (first | assumption | with_unfolding_all rfl)) | ((with_reducible apply Rd.sfldI); (first | assumption | exact upd_same); assumption; assumption; exact Nat.le_of_ble_eq_true rfl) | ((with_reducible apply Rd.maxL); assumption) | ((with_reducible apply Rd.anyL); assumption) | ((with_reducible apply Rd.sumL); assumption) | ((with_reducible refine Rd.izI (by assumption) (by assumption) ?_)) | ((with_reducible refine Rd.eq ?_ ?_); exact rfl) | ((with_reducible refine Rd.ne ?_ ?_); exact rfl) | ((with_reducible refine Rd.szA ?_ ?_); exact Nat.le_of_ble_eq_true rfl) | ((with_reducible refine Rd.I ?_ ?_); first | assumption | decide | exact Or.inr (by decide +kernel) | exact Or.inl (by decide +kernel) | exact ⟨by decide, by decide⟩ | exact ⟨by decide, by decide, by decide⟩ | omega) | ((with_reducible apply Rd.tyL); first | assumption | exact upd_same) | ((with_reducible apply Rd.tyLq); assumption) | ((with_reducible apply Rd.ixL); (first | assumption | exact upd_same); exact rfl) | ((with_reducible apply Rd.ixT); (first | assumption | exact upd_same); exact rfl) | ((with_reducible apply Rd.ixLq); assumption; exact rfl) | ((with_reducible apply Rd.ixTq); assumption; exact rfl) | ((with_reducible apply Rd.gtup); (first | assumption | exact upd_same); exact rfl) | ((with_reducible apply Rd.gtupq); assumption; exact rfl) | ((with_reducible apply Rd.sqAq); assumption) | ((with_reducible apply Rd.stAq); assumption) | ((with_reducible apply Rd.enAq); assumption) | ((with_reducible apply Rd.lenLq); assumption) | ((with_reducible apply Rd.lenTq); assumption) | ((with_reducible apply Rd.sqA); first | assumption | exact upd_same) | ((with_reducible apply Rd.stA); first | assumption | exact upd_same) | ((with_reducible apply Rd.enA); first | assumption | exact upd_same) | ((with_reducible apply Rd.lenL); first | assumption | exact upd_same) | ((with_reducible apply Rd.lenT); first | assumption | exact upd_same) | ((with_reducible refine Rd.nwT ?_ ?_); exact Nat.le_of_ble_eq_true rfl) | ((with_reducible refine Rd.nwL ?_ ?_); exact Nat.le_of_ble_eq_true rfl) | ((with_reducible apply Rd.listOf); assumption) | ((with_reducible apply Rd.listOfq); assumption) | ((with_reducible apply Rd.slo); assumption) | ((with_reducible apply Rd.slq); assumption) | ((with_reducible apply Rd.srtI); assumption) | ((with_reducible apply Rd.srtIo); assumption) | ((with_reducible refine Rd.isi_li (by assumption) ?_)) | ((with_reducible refine Rd.isi_lb (by assumption) ?_)) | ((with_reducible refine Rd.isi_ls (by assumption) ?_)) | ((with_reducible refine Rd.isi_ll (by assumption) ?_)) | ((with_reducible refine Rd.isi_lt (by assumption) ?_)) | ((with_reducible refine Rd.isi_ld (by assumption) ?_)) | ((with_reducible refine Rd.isi_ti (by assumption) ?_)) | ((with_reducible refine Rd.isi_tb (by assumption) ?_)) | ((with_reducible refine Rd.isi_ts (by assumption) ?_)) | ((with_reducible refine Rd.isi_tl (by assumption) ?_)) | ((with_reducible refine Rd.isi_tt (by assumption) ?_)) | ((with_reducible refine Rd.isi_td (by assumption) ?_)))))

/-! ### the objects found, grown -/
structure Grow (E : Nat → List Nat) (n : Nat) (fs ks : List Nat) (D : Nat → Prop) : Prop where
  nd : ks.Nodup
  sub : ∀ k ∈ fs, k ∈ ks
  rch : ∀ x ∈ ks, x < n ∧ ∃ k ∈ fs, Reach E k x
  cl : ∀ i ∈ ks, D i → ∀ j ∈ E i, j ∈ ks
def IsGrow (E : Nat → List Nat) (fs : List Nat) (r : List Int) : Prop := r.Pairwise (· < ·) ∧ ∀ x : Int, x ∈ r ↔ ∃ j : Nat, x = j ∧ ∃ k ∈ fs, Reach E k j
theorem reach_end {E : Nat → List Nat} {k x j : Nat} (h : Reach E k x) (e : j ∈ E x) : Reach E k j := by
  induction h with
  | refl k => exact .step e (.refl j)
  | step a _ ih => exact .step a (ih e)
theorem Grow.add {E : Nat → List Nat} {n a j : Nat} {fs ks : List Nat} {D : Nat → Prop} (g : Grow E n fs ks D) (m : a ∈ ks) (e : j ∈ E a) (ln : j < n) (off : j ∉ ks) (hD : (∀ i, D i) ∨ ∀ i, D i → i < j) : Grow E n fs (ks ++ [j]) D where
  nd := List.nodup_append.mpr ⟨g.nd, by simp, fun b mb c mc z => off (by rw [List.mem_singleton] at mc; rw [← mc, ← z]; exact mb)⟩
  sub := fun k m => List.mem_append.mpr (.inl (g.sub k m))
  rch := fun x m' => by
    rcases List.mem_append.mp m' with m' | m'
    · exact g.rch x m'
    · rw [List.mem_singleton] at m'
      subst m'
      obtain ⟨_, k, mk, r⟩ := g.rch a m
      exact ⟨ln, k, mk, reach_end r e⟩
  cl := fun i mi di t et => by
    rcases List.mem_append.mp mi with mi | mi
    · exact List.mem_append.mpr (.inl (g.cl i mi di t et))
    · rw [List.mem_singleton] at mi
      subst mi
      rcases hD with hD | hD
      · exact absurd (g.cl a m (hD a) i e) off
      · exact absurd (hD i di) (Nat.lt_irrefl i)
theorem Grow.mono {E : Nat → List Nat} {n : Nat} {fs ks : List Nat} {D D' : Nat → Prop} (g : Grow E n fs ks D) (h : ∀ i ∈ ks, D' i → ∀ j ∈ E i, j ∈ ks) : Grow E n fs ks D' := { g with cl := h }
theorem Grow.walk {E : Nat → List Nat} {n : Nat} {fs ks : List Nat} {D : Nat → Prop} (g : Grow E n fs ks D) (hD : ∀ i, D i) {k x : Nat} (r : Reach E k x) : k ∈ ks → x ∈ ks := by
  induction r with
  | refl k => exact id
  | step a _ ih => exact fun m => ih (g.cl _ m (hD _) _ a)
theorem Grow.done {E : Nat → List Nat} {n : Nat} {fs ks : List Nat} {D : Nat → Prop} (g : Grow E n fs ks D) (hD : ∀ i, D i) (x : Nat) : x ∈ ks ↔ ∃ k ∈ fs, Reach E k x := by
  refine ⟨fun m => (g.rch x m).2, fun ⟨k, hk, r⟩ => ?_⟩
  exact g.walk hD r (g.sub k hk)
def zi (ks : List Nat) : List Int := ks.map fun (k : Nat) => ((k : Nat) : Int)
theorem zi_mem {ks : List Nat} {k : Nat} : (k : Int) ∈ zi ks ↔ k ∈ ks := by
  unfold zi
  rw [List.mem_map]
  exact ⟨fun ⟨a, m, e⟩ => by have : a = k := by omega
                             rw [← this]; exact m, fun m => ⟨k, m, rfl⟩⟩
theorem findN_nd {ns : List Str} {x : Str} {i : Nat} (nd : ns.Nodup) (h : ns[i]? = some x) : findN ns x = i :=
  findN_at h fun j hj e => by
    have hl := (List.getElem?_eq_some_iff.mp e).1
    have := (List.getElem?_inj hl nd).mp (e.trans h.symm)
    omega
theorem zi_nodup {ks : List Nat} (nd : ks.Nodup) : (zi ks).Nodup := by
  unfold zi
  rw [List.nodup_iff_pairwise_ne] at *
  exact nd.map _ fun a b h z => h (by omega)
theorem zi_len {ks : List Nat} {n : Nat} (nd : ks.Nodup) (h : ∀ x ∈ ks, x < n) : ks.length ≤ n := by
  have := nodup_len n (zi ks) (zi_nodup nd) fun k m => by
    unfold zi at m
    obtain ⟨a, ma, rfl⟩ := List.mem_map.mp m
    have := h a ma
    omega
  unfold zi at this
  rw [List.length_map] at this
  exact this
theorem findN_get {ns : List Str} {x : Str} (nd : ns.Nodup) (m : x ∈ ns) : ns[(findN ns x).toNat]? = some x := by
  obtain ⟨j, hj⟩ := List.getElem?_of_mem m
  rw [findN_nd nd hj]
  exact hj
section
variable {P : Program} {w : World} {K : PySem.W.Frag} {mg : Str → Option Value} {base : Heap}
def sp__law_grow (K : PySem.W.Frag) : Sp := fun vs H Q _ => ∃ (t O Tt I F : Addr) (os ts is : List V) (p : Pg) (fs : List Nat), vs = [.ref t, .ref F] ∧ PgAt K (Cut (fun a => a = F) H) t O Tt I os ts is p ∧ PgW p ∧ p.names.Nodup ∧ (∀ o ∈ p.obs, o.ops.length ≤ 10 ∧ ∀ x ∈ o.ops, nests x.body ≤ 3) ∧
  H F = some (.lst ((zi fs).map V.int)) ∧ fs.Nodup ∧ (∀ k ∈ fs, k < p.obs.length) ∧
  ∀ (L : Addr) (r : List Int) H', Rd.But F H H' → H L = none → H' L = some (.lst (r.map V.int)) → IsGrow p.E fs r → Q (.ref L) H'
theorem ok__law_grow (T : Top K mg) : FnOk P w K mg base CX0 8 T.a__law_grow T.d__law_grow ["program", "found"]  (sp__law_grow K) := by
  refine T.F__law_grow.ok sc__law_grow (fun vs H Q E h => ?_) (fun cdv A outer s H vs Q E hr h => ?_)
  · obtain ⟨_, _, _, _, _, _, _, _, _, _, rfl, _⟩ := h
    rfl
  · obtain ⟨t, O, Tt, I, F, os, ts, is, p, fs, rfl, pa, pw, nd, sm, hF, fnd, fl, q⟩ := h
    refine ⟨_, (pss_cons (ps_for PassesOwn.never rfl (pi_range1 (by rfl) T.m_range (pa_cons pe_int pa_nil)) (pg_name (i := 2) sc__law_grow.nd rfl (by first | exact Or.inl rfl | exact Or.inr rfl))
  (pss_one (ps_for PassesOwn.never rfl (pi_range1 (by rfl) T.m_range (pa_cons (pe_callB call_len_seq (by rfl) T.m_len PySem.boot_len (pa_cons (pe_ix ix_tup (pv 0) pe_int (fun _ _ => rfl)) pa_nil)) pa_nil)) (pg_name (i := 3) sc__law_grow.nd rfl (by first | exact Or.inl rfl | exact Or.inr rfl))
  (pss_one (ps_if (pt_cmpR op_in_seq (pv 3) (pv 1) (by with_unfolding_all rfl))
  (pss_one (ps_for PassesOwn.never rfl (pi_list (pe_ix ix_tup (pe_ix ix_list (pe_ix ix_tup (pv 0) pe_int (fun _ _ => rfl)) (pv 3) (fun _ _ => rfl)) pe_int (fun _ _ => rfl))) (pg_name (i := 4) sc__law_grow.nd rfl (by first | exact Or.inl rfl | exact Or.inr rfl))
  (pss_one (ps_for PassesOwn.never rfl (pi_list (pe_call (ok__law_names T) (hr.mono (by decide)) (by rfl) T.g__law_names T.F__law_names.kp T.b__law_names .nil pass0 (pa_cons (pe_ix ix_tup (pv 4) pe_int (fun _ _ => rfl)) pa_nil))) (pg_name (i := 5) sc__law_grow.nd rfl (by first | exact Or.inl rfl | exact Or.inr rfl))
  (pss_one (ps_for PassesOwn.never rfl (pi_range1 (by rfl) T.m_range (pa_cons (pe_callB call_len_seq (by rfl) T.m_len PySem.boot_len (pa_cons (pe_ix ix_tup (pv 0) pe_int (fun _ _ => rfl)) pa_nil)) pa_nil)) (pg_name (i := 6) sc__law_grow.nd rfl (by first | exact Or.inl rfl | exact Or.inr rfl))
  (pss_one (ps_if (pw_and (pt_cmpR op_eq (pe_ix ix_tup (pe_ix ix_list (pe_ix ix_tup (pv 0) pe_int (fun _ _ => rfl)) (pv 6) (fun _ _ => rfl)) pe_int (fun _ _ => rfl)) (pv 5) (nomark _)) (pw_and1 (pt_cmpR op_notIn_seq (pv 6) (pv 1) (by with_unfolding_all rfl)))).pt
  (pss_one (ps_expr (pe_bm PySem.F.plainAttrs_list PySem.F.slot_list_append PySem.F.type_list_append mt_append (pv 1) (pa_cons (pv 6) pa_nil))))
  pss_nil))))))))
  pss_nil)))))
  (pss_one (ps_ret (pe_callB cr_sortedI (by rfl) T.m_sorted (by decide +kernel) (pa_cons (pv 1) pa_nil))))), ?_⟩
    obtain ⟨f1, f2, f3⟩ := pw.few
    have lO := pa.lenO
    have cx : ∀ {Hx : Hp}, Rd.But F H Hx → Same (Cut (fun a => a = F) H) Hx := fun b a x e => by
      obtain ⟨n, e⟩ := Cut.get e
      exact b a x n e
    rw [show ∀ a0 a1 : V, L2.start ["program", "found", "k", "at", "item", "name", "other"] [a0, a1] = [some a0, some a1, none, none, none, none, none] from fun _ _ => rfl]
    walk_at "my rn"
    obtain ⟨w0, w1, w2, ht⟩ := pa.ex
    have hO := pa.hO
    have hl : p.names.length = p.obs.length := List.length_map _
    refine ⟨by decide, by decide, for_it walk_range (fun k σ H' => ∃ (ks : List Nat) (y2 y3 y4 y5 y6 : Option V), σ = [some (.ref t), some (.ref F), y2, y3, y4, y5, y6] ∧ Rd.But F H H' ∧ H' F = some (.lst ((zi ks).map V.int)) ∧ Grow p.E p.obs.length fs ks (fun _ => 1 ≤ k))
      ⟨fs, none, none, none, none, none, rfl, Rd.But.refl, hF, fnd, fun _ m => m, fun x m => ⟨fl x m, x, m, .refl x⟩, fun _ _ z => absurd z (by decide)⟩ (fun _ _ _ _ _ => trivial) ?_ ?_⟩
    · rintro k x σ H1o H1 hk ⟨ks, y2, y3, y4, y5, y6, rfl, b1, hF1, g1⟩ yy
      obtain ⟨rfl, e3⟩ := Rd.zr yy
      subst e3
      have ht1 := (cx b1).seqT ht
      have hO1 := (cx b1).seq hO
      walk_at "my rn"
      refine ⟨by omega, by omega, ?_⟩
      rw [Int.toNat_natCast]
      refine for_it walk_range (fun a σ H' => ∃ (ks : List Nat) (y3 y4 y5 y6 : Option V), σ = [some (.ref t), some (.ref F), some (.int (k : Int)), y3, y4, y5, y6] ∧ Rd.But F H H' ∧ H' F = some (.lst ((zi ks).map V.int)) ∧ Grow p.E p.obs.length fs ks (fun i => 1 ≤ k ∨ i < a))
        ⟨ks, y3, y4, y5, y6, rfl, b1, hF1, g1.mono fun i mi d => g1.cl i mi (d.resolve_right (Nat.not_lt_zero i))⟩ (fun _ _ _ _ _ => trivial) ?_ ?_
      · clear ht1 hO1 hF1 b1 g1
        rintro a x σ H2o H2 ha ⟨ks, y3, y4, y5, y6, rfl, b2, hF2, g2⟩ yy
        obtain ⟨rfl, e3⟩ := Rd.zr yy
        subst e3
        have ht2 := (cx b2).seqT ht
        have hO2 := (cx b2).seq hO
        walk_at "my rn"
        refine Rd.inI hF2 ?_
        walk_at "my rn"
        refine Rd.ifD (fun ma => ?_) fun ma => ?_
        · have ma := zi_mem.mp ma
          have hkl : a < p.obs.length := by omega
          obtain ⟨ob, hob⟩ : ∃ ob, p.obs[a]? = some ob := ⟨_, List.getElem?_eq_getElem hkl⟩
          have mob := List.mem_of_getElem? hob
          obtain ⟨vk, hvk, dk⟩ := dp_at (i := a) pa.aO (by rw [List.getElem?_map, hob]; rfl)
          obtain ⟨tk, fs', rfl, hf, af⟩ := dpT dk
          obtain ⟨v0, g0, rfl, d0, af⟩ := dp1 af
          obtain ⟨v1, g0, rfl, d1, af⟩ := dp1 af
          obtain ⟨v2, g0, rfl, d2, af⟩ := dp1 af
          obtain ⟨v3, g0, rfl, d3, af⟩ := dp1 af
          cases dp0 af
          obtain ⟨Po, ps, rfl, hps, aps⟩ := dpL d3
          have lps : ps.length = ob.ops.length := by rw [dps_len aps, List.length_map]
          have eE : p.E a = ob.calls.map fun nm => (findN p.names nm).toNat := by unfold Pg.E; rw [hob]; rfl
          have hf2 := (cx b2).seqT hf
          have hps2 := (cx b2).seq hps
          walk_at "my rn"
          refine Rd.ixLq hO2 (Rd.at_val (j := a) rfl hvk) ?_
          walk_at "my rn"
          refine for_it (walk_list (xs := ps)) (fun m σ H' => ∃ (ks : List Nat) (y4 y5 y6 : Option V), σ = [some (.ref t), some (.ref F), some (.int (k : Int)), some (.int (a : Int)), y4, y5, y6] ∧ Rd.But F H H' ∧ H' F = some (.lst ((zi ks).map V.int)) ∧ Grow p.E p.obs.length fs ks (fun i => 1 ≤ k ∨ i < a) ∧ a ∈ ks ∧
            ∀ nm ∈ (ob.ops.take m).flatMap (fun o => callsN o.body), (findN p.names nm).toNat ∈ ks) ⟨ks, y4, y5, y6, rfl, b2, hF2, g2, ma, by simp⟩ (fun m σ H' _ ⟨_, _, _, _, _, b, _⟩ => (cx b).seq hps) ?_ ?_
          · clear ht2 hO2 hF2 b2 g2 hf2 hps2 ma
            rintro m x σ H3o H3 hm ⟨ks, y4, y5, y6, rfl, b3, hF3, g3, ma, hn⟩ ⟨rfl, hx⟩
            obtain ⟨d, hd, dd⟩ := dp_at' aps hx
            obtain ⟨o, ho, rfl⟩ : ∃ o, ob.ops[m]? = some o ∧ o.d = d := by
              rw [List.getElem?_map] at hd
              cases z : ob.ops[m]? with
              | none => rw [z] at hd; cases hd
              | some s => rw [z] at hd; exact ⟨s, rfl, Option.some.inj hd⟩
            have mo := List.mem_of_getElem? ho
            have dd := dp_same (cx b3) dd
            obtain ⟨t5, xs, rfl, hx5, a5⟩ := dpT dd
            obtain ⟨u0, g0, rfl, _, a6⟩ := dp1 a5
            obtain ⟨u1, g0, rfl, _, a7⟩ := dp1 a6
            obtain ⟨u2, g0, rfl, _, a8⟩ := dp1 a7
            obtain ⟨u3, g0, rfl, _, a9⟩ := dp1 a8
            obtain ⟨u4, g0, rfl, d4, a10⟩ := dp1 a9
            obtain ⟨u5, g0, rfl, _, a11⟩ := dp1 a10
            cases dp0 a11
            have bp := (pw.ops ob mob).2 o mo
            have tk2 : (ob.ops.take (m + 1)).flatMap (fun o => callsN o.body) = (ob.ops.take m).flatMap (fun o => callsN o.body) ++ callsN o.body := by
              rw [List.take_add_one, ho, List.flatMap_append]; simp
            walk_at "my rn"
            refine ⟨u4, o.body, rfl, d4, (sm ob mob).2 o mo, bp.size, fun L H4 s4 nL hL => ?_⟩
            have nLF : L ≠ F := fun z => by rw [z, hF3] at nL; cases nL
            have b4 := b3.trans (Rd.But.same s4)
            have hF4 := s4 _ _ hF3
            walk_at "my rn"
            refine for_it (walk_list (xs := (callsN o.body).map V.str)) (fun q' σ H' => ∃ (ks : List Nat) (y5 y6 : Option V), σ = [some (.ref t), some (.ref F), some (.int (k : Int)), some (.int (a : Int)), some (.ref t5), y5, y6] ∧ Rd.But F H H' ∧ Rd.But F H4 H' ∧ H' F = some (.lst ((zi ks).map V.int)) ∧ Grow p.E p.obs.length fs ks (fun i => 1 ≤ k ∨ i < a) ∧ a ∈ ks ∧
              (∀ nm ∈ (ob.ops.take m).flatMap (fun o => callsN o.body), (findN p.names nm).toNat ∈ ks) ∧ ∀ nm ∈ (callsN o.body).take q', (findN p.names nm).toNat ∈ ks) ⟨ks, y5, y6, rfl, b4, Rd.But.refl, hF4, g3, ma, hn, by simp⟩ (fun m σ H' _ ⟨_, _, _, _, _, b, _⟩ => SqL.of (b _ _ nLF hL)) ?_ ?_
            · clear hF4 b4 g3 ma hn hF3
              rintro q' x σ H5o H5 hq ⟨ks, y5, y6, rfl, b5, c5, hF5, g5, ma, hn, hn2⟩ ⟨rfl, hx⟩
              rw [List.getElem?_map] at hx
              obtain ⟨nm, hnm, rfl⟩ : ∃ nm, (callsN o.body)[q']? = some nm ∧ V.str nm = x := by
                cases z : (callsN o.body)[q']? with
                | none => rw [z] at hx; cases hx
                | some s => rw [z] at hx; exact ⟨s, rfl, Option.some.inj hx⟩
              have mnm := List.mem_of_getElem? hnm
              have mnames := bp.calls nm mnm
              have hidx := findN_get nd mnames
              have tk3 : (callsN o.body).take (q' + 1) = (callsN o.body).take q' ++ [nm] := by rw [List.take_add_one, hnm]; rfl
              have mE : (findN p.names nm).toNat ∈ p.E a := by
                rw [eE]
                refine List.mem_map.mpr ⟨nm, ?_, rfl⟩
                unfold Ob.calls
                exact List.mem_flatMap.mpr ⟨o, mo, mnm⟩
              obtain ⟨la, ln⟩ := pw.later _ _ mE
              have ht5 := (cx b5).seqT ht
              have hO5 := (cx b5).seq hO
              walk_at "my rn"
              refine ⟨by omega, by omega, ?_⟩
              rw [Int.toNat_natCast]
              refine for_it walk_range (fun i σ H' => ∃ (ks : List Nat) (y6 : Option V), σ = [some (.ref t), some (.ref F), some (.int (k : Int)), some (.int (a : Int)), some (.ref t5), some (.str nm), y6] ∧ Rd.But F H H' ∧ Rd.But F H4 H' ∧ H' F = some (.lst ((zi ks).map V.int)) ∧ Grow p.E p.obs.length fs ks (fun i => 1 ≤ k ∨ i < a) ∧ a ∈ ks ∧
                (∀ nm ∈ (ob.ops.take m).flatMap (fun o => callsN o.body), (findN p.names nm).toNat ∈ ks) ∧ (∀ nm ∈ (callsN o.body).take q', (findN p.names nm).toNat ∈ ks) ∧ ((findN p.names nm).toNat < i → (findN p.names nm).toNat ∈ ks)) ⟨ks, y6, rfl, b5, c5, hF5, g5, ma, hn, hn2, fun z => absurd z (Nat.not_lt_zero _)⟩ (fun _ _ _ _ _ => trivial) ?_ ?_
              · clear ht5 hO5 hF5 b5 c5 g5 ma hn hn2
                rintro i x σ H6o H6 hi ⟨ks, y6, rfl, b6, c6, hF6, g6, ma, hn, hn2, hn3⟩ yy
                obtain ⟨rfl, e3⟩ := Rd.zr yy
                subst e3
                have ht6 := (cx b6).seqT ht
                have hO6 := (cx b6).seq hO
                obtain ⟨ob2, hob2⟩ : ∃ ob, p.obs[i]? = some ob := ⟨_, List.getElem?_eq_getElem (by omega)⟩
                obtain ⟨vk2, hvk2, dk2⟩ := dp_at (i := i) pa.aO (by rw [List.getElem?_map, hob2]; rfl)
                obtain ⟨tk2', fs2, rfl, hfo, af2⟩ := dpT dk2
                obtain ⟨v0', g0, rfl, d0', af2⟩ := dp1 af2
                obtain ⟨v1', g0, rfl, d1', af2⟩ := dp1 af2
                obtain ⟨v2', g0, rfl, d2', af2⟩ := dp1 af2
                obtain ⟨v3', g0, rfl, d3', af2⟩ := dp1 af2
                cases dp0 af2; cases dpS d1'
                have hfo6 := (cx b6).seqT hfo
                have hni : p.names[i]? = some ob2.name := by unfold Pg.names; rw [List.getElem?_map, hob2]; rfl
                walk_at "my rn"
                refine Rd.ixLq hO6 (Rd.at_val (j := i) rfl hvk2) ?_
                walk_at "my rn"
                refine Rd.ifD (fun en => ?_) fun en => ?_
                · have en := V.str.inj en
                  have ei : (findN p.names nm).toNat = i := by rw [findN_nd nd (en ▸ hni)]; rfl
                  walk_at "my rn"
                  refine Rd.ninI hF6 ?_
                  by_cases mi : i ∈ ks
                  · rw [decide_eq_true (zi_mem.mpr mi)]
                    walk_at "my rn"
                    exact ⟨ks, _, rfl, b6, c6, hF6, g6, ma, hn, hn2, fun _ => by rw [ei]; exact mi⟩
                  · rw [decide_eq_false (fun z => mi (zi_mem.mp z))]
                    have lks := zi_len g6.nd fun x m => (g6.rch x m).1
                    walk_at "my rn"
                    refine Rd.app hF6 (Rd.szl (by unfold zi; rw [List.length_map, List.length_map]; omega)) ?_
                    refine ⟨ks ++ [i], _, rfl, b6.trans Rd.But.at_, c6.trans Rd.But.at_, by rw [upd_same]; unfold zi; simp, g6.add ma (ei ▸ mE) (by omega) mi ?_, List.mem_append.mpr (.inl ma), fun nm' m' => List.mem_append.mpr (.inl (hn nm' m')), fun nm' m' => List.mem_append.mpr (.inl (hn2 nm' m')), fun _ => by rw [ei]; simp⟩
                    by_cases hk0 : 1 ≤ k
                    · exact .inl fun _ => .inl hk0
                    · exact .inr fun j d => by
                        have := d.resolve_left hk0
                        omega
                · walk_at "my rn"
                  refine ⟨ks, _, rfl, b6, c6, hF6, g6, ma, hn, hn2, fun z => hn3 (by
                    have : (findN p.names nm).toNat ≠ i := fun e => en (by rw [e, hni] at hidx; cases hidx; rfl)
                    omega)⟩
              · rintro σ H6 ⟨ks, y6, rfl, b6, c6, hF6, g6, ma, hn, hn2, hn3⟩
                refine ⟨ks, _, _, rfl, b6, c6, hF6, g6, ma, hn, fun nm' m' => ?_⟩
                rw [tk3] at m'
                rcases List.mem_append.mp m' with m' | m'
                · exact hn2 nm' m'
                · rw [List.mem_singleton] at m'
                  subst m'
                  exact hn3 (by omega)
            · rintro σ H5 ⟨ks, y5, y6, rfl, b5, c5, hF5, g5, ma, hn, hn2⟩
              refine ⟨ks, _, _, _, rfl, b5, hF5, g5, ma, fun nm' m' => ?_⟩
              rw [List.length_map, List.take_length] at hn2
              rw [tk2] at m'
              rcases List.mem_append.mp m' with m' | m'
              · exact hn nm' m'
              · exact hn2 nm' m'
          · rintro σ H3 ⟨ks, y4, y5, y6, rfl, b3, hF3, g3, ma, hn⟩
            refine ⟨ks, _, _, _, _, rfl, b3, hF3, g3.mono fun i mi d j ej => ?_⟩
            by_cases hia : i = a
            · subst hia
              rw [eE] at ej
              obtain ⟨nm, mn, rfl⟩ := List.mem_map.mp ej
              rw [lps, List.take_length] at hn
              exact hn nm mn
            · exact g3.cl i mi (d.imp id fun d => by omega) j ej
        · have ma : a ∉ ks := fun m => ma (zi_mem.mpr m)
          walk_at "my rn"
          refine ⟨ks, _, _, _, _, rfl, b2, hF2, g2.mono fun i mi d => g2.cl i mi (d.imp id fun d => ?_)⟩
          have : i ≠ a := fun z => ma (z ▸ mi)
          omega
      · rintro σ H2 ⟨ks, y3, y4, y5, y6, rfl, b2, hF2, g2⟩
        refine ⟨ks, _, _, _, _, _, rfl, b2, hF2, g2.mono fun i mi _ => g2.cl i mi (.inr ?_)⟩
        have := (g2.rch i mi).1
        omega
    · rintro σ H1 ⟨ks, y2, y3, y4, y5, y6, rfl, b1, hF1, g1⟩
      walk_at "my rn"
      intro r L H2 pm pw2 nL s2 hL
      have nLF : L ≠ F := fun z => by rw [z, hF1] at nL; cases nL
      have nH : H L = none := by
        cases e : H L with
        | none => rfl
        | some x => have := b1 _ _ nLF e; rw [nL] at this; cases this
      refine q L r H2 (b1.trans (Rd.But.same s2)) nH hL ⟨?_, fun x => ?_⟩
      · have nr : r.Nodup := pm.nodup_iff.mpr (zi_nodup g1.nd)
        rw [List.nodup_iff_pairwise_ne] at nr
        exact (pw2.and nr).imp fun h => by omega
      · rw [pm.mem_iff]
        constructor
        · intro m
          unfold zi at m
          obtain ⟨j, mj, rfl⟩ := List.mem_map.mp m
          exact ⟨j, rfl, (g1.done (fun _ => by omega) j).mp mj⟩
        · rintro ⟨j, rfl, h⟩
          exact zi_mem.mpr ((g1.done (fun _ => by omega) j).mpr h)
end

end Mine

set_option Elab.async false
set_option linter.all false
set_option maxRecDepth 100000
set_option maxHeartbeats 1000000

--@@rec _law_expr _law_body _law_statement _copied _copied_statement _law_names

--@@guards
namespace Mine
open PySem PySem.Spec PyProof.Rows L2
local macro_rules | `(tactic| walk_at "my rn") => `(tactic| (repeat (first | with_reducible refine Rd.catQI ?_ | with_reducible refine Rd.revN ?_ | with_reducible refine Rd.lzip ?_ | with_reducible refine Rd.fld ?_ | with_reducible refine Rd.sfld ?_ | with_reducible refine Rd.meth ?_ | with_reducible refine Rd.make ?_ | with_reducible refine Rd.izip ?_ | with_reducible refine Rd.tupN ?_ | with_reducible refine Rd.lstN ?_ | with_reducible refine Rd.cbListOf ?_ | with_reducible refine Rd.cbListOfR ?_ | with_reducible refine Rd.catI ?_ | with_reducible refine Rd.slN ?_ | with_reducible refine Rd.cbSrtI ?_ | with_reducible refine Rd.seq ?_ | with_reducible refine Rd.next ?_ | with_reducible refine Rd.brk ?_ | with_reducible refine Rd.cont ?_ | with_reducible refine Rd.asg ?_ | with_reducible refine Rd.ret ?_ | with_reducible refine Rd.retN ?_ | with_reducible refine Rd.drop ?_ | with_reducible refine Rd.ifs ?_ | with_reducible refine Rd.ife ?_ | with_reducible refine Rd.test ?_ | with_reducible refine Rd.tb_ ?_ | with_reducible refine Rd.bl ?_ | with_reducible refine Rd.bl2 ?_ | with_reducible refine Rd.and_ ?_ | with_reducible refine Rd.or_ ?_ | with_reducible refine Rd.not_ ?_ | with_reducible refine Rd.andV ?_ | with_reducible refine Rd.orV ?_ | with_reducible refine Rd.notV ?_ | with_reducible refine Rd.op ?_ | with_reducible refine Rd.un ?_ | with_reducible refine Rd.I0 ?_ | with_reducible refine Rd.U ?_ | with_reducible refine Rd.ip ?_ | with_reducible refine Rd.c_ ?_ | with_reducible refine Rd.nil ?_ | with_reducible refine Rd.cons ?_ | with_reducible refine Rd.call ?_ | with_reducible refine Rd.cb ?_ | with_reducible refine Rd.bm ?_ | with_reducible refine Rd.bm0 ?_ | with_reducible refine Rd.nopart ?_ | with_reducible refine Rd.part ?_ | with_reducible refine Rd.int1 ?_ | with_reducible refine Rd.ints1 ?_ | with_reducible refine Rd.ints2 ?_ | with_reducible refine Rd.gcons ?_ | with_reducible refine Rd.gnil ?_ | with_reducible refine Rd.sub ?_ | with_reducible refine Rd.isN ?_ | with_reducible refine Rd.chain ?_ | with_reducible refine Rd.rf ?_ | with_reducible refine Rd.tyS ?_ | with_reducible refine Rd.intI ?_ | with_reducible refine Rd.lc ?_ | with_reducible refine Rd.for_ ?_ | with_reducible refine Rd.ilist ?_ | with_reducible refine Rd.itup ?_ | with_reducible refine Rd.irng1 ?_ | with_reducible refine Rd.irng2 ?_ | with_reducible refine Rd.ienum ?_ | with_reducible refine Rd.istr ?_ | with_reducible refine Rd.refA ?_ | with_reducible refine Rd.strA ?_ | with_reducible refine Rd.yes ?_ | with_reducible refine Rd.ifT ?_ | with_reducible refine Rd.ifF ?_ | with_reducible refine Rd.ifnT ?_ | with_reducible refine Rd.ifnF ?_ | with_reducible refine Rd.isi_ii ?_ | with_reducible refine Rd.isi_ib ?_ | with_reducible refine Rd.isi_is ?_ | with_reducible refine Rd.isi_il ?_ | with_reducible refine Rd.isi_it ?_ | with_reducible refine Rd.isi_id ?_ | with_reducible refine Rd.isi_bi ?_ | with_reducible refine Rd.isi_bb ?_ | with_reducible refine Rd.isi_bs ?_ | with_reducible refine Rd.isi_bl ?_ | with_reducible refine Rd.isi_bt ?_ | with_reducible refine Rd.isi_bd ?_ | with_reducible refine Rd.isi_si ?_ | with_reducible refine Rd.isi_sb ?_ | with_reducible refine Rd.isi_ss ?_ | with_reducible refine Rd.isi_sl ?_ | with_reducible refine Rd.isi_st ?_ | with_reducible refine Rd.isi_sd ?_ | with_reducible refine Rd.isi_ni ?_ | with_reducible refine Rd.isi_nb ?_ | with_reducible refine Rd.isi_ns ?_ | with_reducible refine Rd.isi_nl ?_ | with_reducible refine Rd.isi_nt ?_ | with_reducible refine Rd.isi_nd ?_ | with_reducible refine Rd.sl ?_ | with_reducible refine Rd.v0 ?_ | with_reducible refine Rd.v1 ?_ | with_reducible refine Rd.v2 ?_ | with_reducible refine Rd.v3 ?_ | with_reducible refine Rd.v4 ?_ | with_reducible refine Rd.v5 ?_ | with_reducible refine Rd.v6 ?_ | with_reducible refine Rd.v7 ?_ | with_reducible refine Rd.v8 ?_ | with_reducible refine Rd.v9 ?_ | with_reducible refine Rd.v10 ?_ | with_reducible refine Rd.v11 ?_ | with_reducible refine Rd.v12 ?_ | with_reducible refine Rd.v13 ?_ | with_reducible refine Rd.v14 ?_ | with_reducible refine Rd.v15 ?_ | with_reducible refine Rd.n0 ?_ | with_reducible refine Rd.n1 ?_ | with_reducible refine Rd.n2 ?_ | with_reducible refine Rd.n3 ?_ | with_reducible refine Rd.n4 ?_ | with_reducible refine Rd.n5 ?_ | with_reducible refine Rd.n6 ?_ | with_reducible refine Rd.n7 ?_ | with_reducible refine Rd.n8 ?_ | with_reducible refine Rd.n9 ?_ | with_reducible refine Rd.n10 ?_ | with_reducible refine Rd.n11 ?_ | with_reducible refine Rd.n12 ?_ | with_reducible refine Rd.n13 ?_ | with_reducible refine Rd.n14 ?_ | with_reducible refine Rd.n15 ?_ | with_reducible refine Rd.g0 ?_ | with_reducible refine Rd.g1 ?_ | with_reducible refine Rd.g2 ?_ | with_reducible refine Rd.g3 ?_ | with_reducible refine Rd.g4 ?_ | with_reducible refine Rd.g5 ?_ | with_reducible refine Rd.g6 ?_ | with_reducible refine Rd.g7 ?_ | with_reducible refine Rd.g8 ?_ | with_reducible refine Rd.g9 ?_ | with_reducible refine Rd.g10 ?_ | with_reducible refine Rd.g11 ?_ | with_reducible refine Rd.g12 ?_ | with_reducible refine Rd.g13 ?_ | with_reducible refine Rd.g14 ?_ | with_reducible refine Rd.g15 ?_ | ((with_reducible apply Rd.glst); (first | assumption | exact upd_same); exact rfl) | ((with_reducible apply Rd.gtP); assumption; assumption) | ((with_reducible apply Rd.revq); first | assumption | exact SqL.of (by assumption)) | ((with_reducible apply Rd.fldI); (first | assumption | exact upd_same); assumption; assumption; (first | assumption | with_unfolding_all rfl)) | ((with_reducible apply Rd.methI); (first | assumption | exact upd_same); (first | assumption | with_unfolding_all rfl)) | ((with_reducible apply Rd.sfldI); (first | assumption | exact upd_same); assumption; assumption; exact Nat.le_of_ble_eq_true rfl) | ((with_reducible apply Rd.maxL); assumption) | ((with_reducible apply Rd.anyL); assumption) | ((with_reducible apply Rd.sumL); assumption) | ((with_reducible refine Rd.izI (by assumption) (by assumption) ?_)) | ((with_reducible refine Rd.eq ?_ ?_); exact rfl) | ((with_reducible refine Rd.ne ?_ ?_); exact rfl) | ((with_reducible refine Rd.szA ?_ ?_); exact Nat.le_of_ble_eq_true rfl) | ((with_reducible refine Rd.I ?_ ?_); first | assumption | decide | exact Or.inr (by decide +kernel) | exact Or.inl (by decide +kernel) | exact ⟨by decide, by decide⟩ | exact ⟨by decide, by decide, by decide⟩ | omega) | ((with_reducible apply Rd.tyL); first | assumption | exact upd_same) | ((with_reducible apply Rd.tyLq); assumption) | ((with_reducible apply Rd.ixL); (first | assumption | exact upd_same); exact rfl) | ((with_reducible apply Rd.ixT); (first | assumption | exact upd_same); exact rfl) | ((with_reducible apply Rd.ixLq); assumption; exact rfl) | ((with_reducible apply Rd.ixTq); assumption; exact rfl) | ((with_reducible apply Rd.gtup); (first | assumption | exact upd_same); exact rfl) | ((with_reducible apply Rd.gtupq); assumption; exact rfl) | ((with_reducible apply Rd.sqAq); assumption) | ((with_reducible apply Rd.stAq); assumption) | ((with_reducible apply Rd.enAq); assumption) | ((with_reducible apply Rd.lenLq); assumption) | ((with_reducible apply Rd.lenTq); assumption) | ((with_reducible apply Rd.sqA); first | assumption | exact upd_same) | ((with_reducible apply Rd.stA); first | assumption | exact upd_same) | ((with_reducible apply Rd.enA); first | assumption | exact upd_same) | ((with_reducible apply Rd.lenL); first | assumption | exact upd_same) | ((with_reducible apply Rd.lenT); first | assumption | exact upd_same) | ((with_reducible refine Rd.nwT ?_ ?_); exact Nat.le_of_ble_eq_true rfl) | ((with_reducible refine Rd.nwL ?_ ?_); exact Nat.le_of_ble_eq_true rfl) | ((with_reducible apply Rd.listOf); assumption) | ((with_reducible apply Rd.listOfq); assumption) | ((with_reducible apply Rd.slo); assumption) | ((with_reducible apply Rd.slq); assumption) | ((with_reducible apply Rd.srtI); assumption) | ((with_reducible apply Rd.srtIo); assumption) | ((with_reducible refine Rd.isi_li (by assumption) ?_)) | ((with_reducible refine Rd.isi_lb (by assumption) ?_)) | ((with_reducible refine Rd.isi_ls (by assumption) ?_)) | ((with_reducible refine Rd.isi_ll (by assumption) ?_)) | ((with_reducible refine Rd.isi_lt (by assumption) ?_)) | ((with_reducible refine Rd.isi_ld (by assumption) ?_)) | ((with_reducible refine Rd.isi_ti (by assumption) ?_)) | ((with_reducible refine Rd.isi_tb (by assumption) ?_)) | ((with_reducible refine Rd.isi_ts (by assumption) ?_)) | ((with_reducible refine Rd.isi_tl (by assumption) ?_)) | ((with_reducible refine Rd.isi_tt (by assumption) ?_)) | ((with_reducible refine Rd.isi_td (by assumption) ?_)))))

/-! ### the objects that names start from -/
theorem inV_strs (x : Str) (r : List Str) : inV (.str x) (r.map V.str) = decide (x ∈ r) := by
  unfold inV
  rw [List.any_map]
  by_cases h : x ∈ r
  · rw [decide_eq_true h, List.any_eq_true]
    exact ⟨x, h, beq_self_eq_true x⟩
  · rw [decide_eq_false h, List.any_eq_false]
    intro y hy e
    have e2 : (y == x) = true := e
    rw [beq_iff_eq] at e2
    exact h (e2 ▸ hy)
theorem _root_.L2.Rd.inS {K : PySem.W.Frag} {H : Hp} {Q : VK} {p : Addr} {ns : List Str} {n : Str} (h : H p = some (.lst (ns.map V.str))) (q : Q (.bl (decide (n ∈ ns))) H) : rIn K false (.str n) (.ref p) H Q :=
  ⟨p, _, rfl, .inl (SqL.of h), rfl, Rd.flat_strs _, by rw [inV_strs]; exact q⟩
/-- the indexes of a range that pass a test -/
theorem lc_flR {n : Nat} {g : TG} {tt : TT} {te : TE} {vs : List Nat} {σ : L2.St} {H1 : Hp} {C : Addr} {Qd : Hp → Prop} (p : Nat → Bool) (nD : H1 C = none) (hn : n ≤ 90000)
    (hs : ∀ (i : Nat) H (Kt : VK) (Kn : Hp → Prop), i < n → Rd.But C H1 H → (p i = true → Kt (.int (i : Int)) H) → (p i = false → Kn H) → g (.int (i : Int)) (wipe σ vs) H fun σ2 H2 => wipe σ2 vs = wipe σ vs ∧ tt σ2 H2 fun b H3 => if b = true then te σ2 H3 Kt else Kn H3)
    (hd : ∀ H, Same H1 H → H C = some (.lst ((zi ((List.range n).filter p)).map V.int)) → Qd H) :
    ∃ W : Nat → Nat → Hp → Prop, (∃ m, W 0 m (upd H1 C (.lst []))) ∧ ∀ i m H, W i m H →
      ((Itr 0 n).stop i H ∧ Qd H) ∨ ((Itr 0 n).go i H ∧ ∃ Nx : Hp → Prop, (∀ H', Nx H' → ∃ m', m' < m ∧ W (i + 1) m' H') ∧ ∀ x H', (Itr 0 n).yld i H x H' → g x (wipe σ vs) H' fun σ2 H2 => wipe σ2 vs = wipe σ vs ∧ tt σ2 H2 fun b H3 =>
        if b = true then te σ2 H3 fun y H4 => ∃ acc, H4 C = some (.lst acc) ∧ acc.length < sizeLine ∧ Nx (upd H4 C (.lst (acc ++ [y]))) else Nx H3) := by
  refine lc_it walk_range (fun i H => Rd.But C H1 H ∧ H C = some (.lst ((zi ((List.range i).filter p)).map V.int))) ⟨Rd.But.at_, by simp [upd_same, zi]⟩ (fun i H _ _ => trivial) (fun i x H H' hi ⟨b, hD⟩ y => ?_) (fun H ⟨b, hD⟩ => ?_)
  · obtain ⟨rfl, e⟩ := Rd.zr y
    subst e
    have tk : (List.range (i + 1)).filter p = (List.range i).filter p ++ [i].filter p := by
      rw [List.range_succ, List.filter_append]
    refine hs i _ _ _ hi b (fun hp => ?_) (fun hp => ?_)
    · refine ⟨_, hD, Rd.szl ?_, b.trans Rd.But.at_, ?_⟩
      · unfold zi
        rw [List.length_map, List.length_map]
        have := List.length_filter_le p (List.range i)
        rw [List.length_range] at this
        omega
      · rw [upd_same, tk, List.filter_cons_of_pos hp]
        simp [zi]
    · refine ⟨b, ?_⟩
      rw [tk, List.filter_cons_of_neg (by simp [hp])]
      simpa using hD
  · exact hd H (b.to nD) hD
section
variable {P : Program} {w : World} {K : PySem.W.Frag} {mg : Str → Option Value} {base : Heap}
def sp__law_start (K : PySem.W.Frag) : Sp := fun vs H Q _ => ∃ (t O Tt I N : Addr) (os ts is : List V) (p : Pg) (nms : List Str), vs = [.ref t, .ref N] ∧ PgAt K H t O Tt I os ts is p ∧ PgW p ∧ p.names.Nodup ∧ (∀ o ∈ p.obs, o.ops.length ≤ 10 ∧ ∀ x ∈ o.ops, nests x.body ≤ 3) ∧
  H N = some (.lst (nms.map V.str)) ∧ (∀ nm ∈ nms, nm ∈ p.names) ∧
  ∀ (L : Addr) (r : List Int) H', Same H H' → H L = none → H' L = some (.lst (r.map V.int)) → IsUse p nms r → Q (.ref L) H'
theorem ok__law_start (T : Top K mg) : FnOk P w K mg base CX0 9 T.a__law_start T.d__law_start ["program", "names"]  (sp__law_start K) := by
  refine T.F__law_start.ok sc__law_start (fun vs H Q E h => ?_) (fun cdv A outer s H vs Q E hr h => ?_)
  · obtain ⟨_, _, _, _, _, _, _, _, _, _, rfl, _⟩ := h
    rfl
  · obtain ⟨t, O, Tt, I, N, os, ts, is, p, nms, rfl, pa, pw, nd, sm, hN, hm, q⟩ := h
    refine ⟨_, (pss_one (ps_ret (pe_call (ok__law_grow T) (hr.mono (by decide)) (by rfl) T.g__law_grow T.F__law_grow.kp T.b__law_grow .nil pass0 (pa_cons (pv 0) (pa_cons (pe_lc (own := [("at", 2)]) (g := gName 2) rfl sc__law_start.nd (pi_range1 (by rfl) T.m_range (pa_cons (pe_callB call_len_seq (by rfl) T.m_len PySem.boot_len (pa_cons (pe_ix ix_tup (pv 0) pe_int (fun _ _ => rfl)) pa_nil)) pa_nil)) (blkOk_by (N := ["program", "names", "at"]) (sc := defScope s__law_start) (by decide +kernel)) (fun _ _ _ _ _ => pg_name (i := 2) sc__law_start.nd rfl (Or.inl rfl)) (fun _ _ _ _ _ => pts_one (pt_cmpR (show OpR _ (compareOp .In) (rIn K false) from op_in_seq) (pe_ix (r := rIxT K) ix_tup (pe_ix (r := rIxL K) ix_list (pe_ix (r := rIxT K) ix_tup (pv 0) pe_int (fun _ _ => rfl)) (pv 2) (fun _ _ => rfl)) pe_int (fun _ _ => rfl)) (pv 1) (by with_unfolding_all rfl))) (fun _ _ _ _ _ => (pv 2))) pa_nil))))), ?_⟩
    obtain ⟨f1, f2, f3⟩ := pw.few
    have lO := pa.lenO
    obtain ⟨w0, w1, w2, ht⟩ := pa.ex
    have hO := pa.hO
    rw [show ∀ a0 a1 : V, L2.start ["program", "names", "at"] [a0, a1] = [some a0, some a1, none] from fun _ _ => rfl]
    walk_at "my rn"
    refine ⟨by omega, by omega, fun F nF => ?_⟩
    rw [Int.toNat_natCast]
    refine lc_flR (fun i => (p.names[i]?.any fun x => decide (x ∈ nms))) nF (by omega) (fun i Hx Kt Kn hi b kt kn => ?_) (fun H2 s2 hF => ?_)
    · have sx := b.to nF
      have htx := sx.seqT ht
      have hOx := sx.seq hO
      obtain ⟨ob2, hob2⟩ : ∃ ob, p.obs[i]? = some ob := ⟨_, List.getElem?_eq_getElem (by omega)⟩
      obtain ⟨vk2, hvk2, dk2⟩ := dp_at (i := i) pa.aO (by rw [List.getElem?_map, hob2]; rfl)
      obtain ⟨tk2', fs2, rfl, hfo, af2⟩ := dpT dk2
      obtain ⟨v0', g0, rfl, d0', af2⟩ := dp1 af2
      obtain ⟨v1', g0, rfl, d1', af2⟩ := dp1 af2
      obtain ⟨v2', g0, rfl, d2', af2⟩ := dp1 af2
      obtain ⟨v3', g0, rfl, d3', af2⟩ := dp1 af2
      cases dp0 af2; cases dpS d1'
      have hfox := sx.seqT hfo
      have hni : p.names[i]? = some ob2.name := by unfold Pg.names; rw [List.getElem?_map, hob2]; rfl
      rw [hni] at kt kn
      have hNx := sx _ _ hN
      simp only [List.map_cons, List.map_nil, L2.wipe, List.set_cons_succ, List.set_cons_zero]
      walk_at "my rn"
      refine ⟨rfl, ?_⟩
      walk_at "my rn"
      refine Rd.ixLq hOx (Rd.at_val (j := i) rfl hvk2) ?_
      walk_at "my rn"
      refine Rd.inS hNx ?_
      walk_at "my rn"
      refine Rd.ifD (fun m => ?_) fun m => ?_
      · walk_at "my rn"
        exact kt (decide_eq_true m)
      · exact kn (decide_eq_false m)
    · have nH : H F = none := nF
      walk_at "my rn"
      refine ⟨t, O, Tt, I, F, os, ts, is, p, _, rfl, pa.same (fun a x e => Cut.at (fun z => by rw [z, nF] at e; cases e) (s2 a x e)), pw, nd, sm, hF, List.nodup_range.filter _, fun k m => ?_, fun L r H3 b3 nL hL ig => ?_⟩
      · have := List.mem_range.mp (List.mem_filter.mp m).1
        omega
      · refine q L r H3 (fun a x e => b3 a x (fun z => by rw [z, nF] at e; cases e) (s2 a x e)) (s2.free nL) hL ⟨ig.1, fun x => (ig.2 x).trans ⟨?_, ?_⟩⟩
        · rintro ⟨j, e, k, mk', r⟩
          obtain ⟨_, h2⟩ := List.mem_filter.mp mk'
          refine ⟨j, e, ?_⟩
          cases hk : p.names[k]? with
          | none => rw [hk] at h2; cases h2
          | some nm =>
            rw [hk] at h2
            refine ⟨nm, of_decide_eq_true h2, ?_⟩
            rw [findN_nd nd hk]
            exact r
        · rintro ⟨j, e, nm, mn, r⟩
          have hk := findN_get nd (hm nm mn)
          have hl := (List.getElem?_eq_some_iff.mp hk).1
          have hl2 : p.names.length = p.obs.length := List.length_map _
          refine ⟨j, e, _, List.mem_filter.mpr ⟨List.mem_range.mpr (by omega), ?_⟩, r⟩
          rw [hk]
          exact decide_eq_true mn
end

end Mine

set_option Elab.async false
set_option linter.all false
set_option maxRecDepth 100000
set_option maxHeartbeats 1000000

--@@rec _law_expr _law_body _law_statement _copied _copied_statement _law_names

--@@guards
namespace Mine
open PySem PySem.Spec PyProof.Rows L2
local macro_rules | `(tactic| walk_at "my rn") => `(tactic| (repeat (first | with_reducible refine Rd.catQI ?_ | with_reducible refine Rd.revN ?_ | with_reducible refine Rd.lzip ?_ | with_reducible refine Rd.fld ?_ | with_reducible refine Rd.sfld ?_ | with_reducible refine Rd.meth ?_ | with_reducible refine Rd.make ?_ | with_reducible refine Rd.izip ?_ | with_reducible refine Rd.tupN ?_ | with_reducible refine Rd.lstN ?_ | with_reducible refine Rd.cbListOf ?_ | with_reducible refine Rd.cbListOfR ?_ | with_reducible refine Rd.catI ?_ | with_reducible refine Rd.slN ?_ | with_reducible refine Rd.cbSrtI ?_ | with_reducible refine Rd.seq ?_ | with_reducible refine Rd.next ?_ | with_reducible refine Rd.brk ?_ | with_reducible refine Rd.cont ?_ | with_reducible refine Rd.asg ?_ | with_reducible refine Rd.ret ?_ | with_reducible refine Rd.retN ?_ | with_reducible refine Rd.drop ?_ | with_reducible refine Rd.ifs ?_ | with_reducible refine Rd.ife ?_ | with_reducible refine Rd.test ?_ | with_reducible refine Rd.tb_ ?_ | with_reducible refine Rd.bl ?_ | with_reducible refine Rd.bl2 ?_ | with_reducible refine Rd.and_ ?_ | with_reducible refine Rd.or_ ?_ | with_reducible refine Rd.not_ ?_ | with_reducible refine Rd.andV ?_ | with_reducible refine Rd.orV ?_ | with_reducible refine Rd.notV ?_ | with_reducible refine Rd.op ?_ | with_reducible refine Rd.un ?_ | with_reducible refine Rd.I0 ?_ | with_reducible refine Rd.U ?_ | with_reducible refine Rd.ip ?_ | with_reducible refine Rd.c_ ?_ | with_reducible refine Rd.nil ?_ | with_reducible refine Rd.cons ?_ | with_reducible refine Rd.call ?_ | with_reducible refine Rd.cb ?_ | with_reducible refine Rd.bm ?_ | with_reducible refine Rd.bm0 ?_ | with_reducible refine Rd.nopart ?_ | with_reducible refine Rd.part ?_ | with_reducible refine Rd.int1 ?_ | with_reducible refine Rd.ints1 ?_ | with_reducible refine Rd.ints2 ?_ | with_reducible refine Rd.gcons ?_ | with_reducible refine Rd.gnil ?_ | with_reducible refine Rd.sub ?_ | with_reducible refine Rd.isN ?_ | with_reducible refine Rd.chain ?_ | with_reducible refine Rd.rf ?_ | with_reducible refine Rd.tyS ?_ | with_reducible refine Rd.intI ?_ | with_reducible refine Rd.lc ?_ | with_reducible refine Rd.for_ ?_ | with_reducible refine Rd.ilist ?_ | with_reducible refine Rd.itup ?_ | with_reducible refine Rd.irng1 ?_ | with_reducible refine Rd.irng2 ?_ | with_reducible refine Rd.ienum ?_ | with_reducible refine Rd.istr ?_ | with_reducible refine Rd.refA ?_ | with_reducible refine Rd.strA ?_ | with_reducible refine Rd.yes ?_ | with_reducible refine Rd.ifT ?_ | with_reducible refine Rd.ifF ?_ | with_reducible refine Rd.ifnT ?_ | with_reducible refine Rd.ifnF ?_ | with_reducible refine Rd.isi_ii ?_ | with_reducible refine Rd.isi_ib ?_ | with_reducible refine Rd.isi_is ?_ | with_reducible refine Rd.isi_il ?_ | with_reducible refine Rd.isi_it ?_ | with_reducible refine Rd.isi_id ?_ | with_reducible refine Rd.isi_bi ?_ | with_reducible refine Rd.isi_bb ?_ | with_reducible refine Rd.isi_bs ?_ | with_reducible refine Rd.isi_bl ?_ | with_reducible refine Rd.isi_bt ?_ | with_reducible refine Rd.isi_bd ?_ | with_reducible refine Rd.isi_si ?_ | with_reducible refine Rd.isi_sb ?_ | with_reducible refine Rd.isi_ss ?_ | with_reducible refine Rd.isi_sl ?_ | with_reducible refine Rd.isi_st ?_ | with_reducible refine Rd.isi_sd ?_ | with_reducible refine Rd.isi_ni ?_ | with_reducible refine Rd.isi_nb ?_ | with_reducible refine Rd.isi_ns ?_ | with_reducible refine Rd.isi_nl ?_ | with_reducible refine Rd.isi_nt ?_ | with_reducible refine Rd.isi_nd ?_ | with_reducible refine Rd.sl ?_ | with_reducible refine Rd.v0 ?_ | with_reducible refine Rd.v1 ?_ | with_reducible refine Rd.v2 ?_ | with_reducible refine Rd.v3 ?_ | with_reducible refine Rd.v4 ?_ | with_reducible refine Rd.v5 ?_ | with_reducible refine Rd.v6 ?_ | with_reducible refine Rd.v7 ?_ | with_reducible refine Rd.v8 ?_ | with_reducible refine Rd.v9 ?_ | with_reducible refine Rd.v10 ?_ | with_reducible refine Rd.v11 ?_ | with_reducible refine Rd.v12 ?_ | with_reducible refine Rd.v13 ?_ | with_reducible refine Rd.v14 ?_ | with_reducible refine Rd.v15 ?_ | with_reducible refine Rd.n0 ?_ | with_reducible refine Rd.n1 ?_ | with_reducible refine Rd.n2 ?_ | with_reducible refine Rd.n3 ?_ | with_reducible refine Rd.n4 ?_ | with_reducible refine Rd.n5 ?_ | with_reducible refine Rd.n6 ?_ | with_reducible refine Rd.n7 ?_ | with_reducible refine Rd.n8 ?_ | with_reducible refine Rd.n9 ?_ | with_reducible refine Rd.n10 ?_ | with_reducible refine Rd.n11 ?_ | with_reducible refine Rd.n12 ?_ | with_reducible refine Rd.n13 ?_ | with_reducible refine Rd.n14 ?_ | with_reducible refine Rd.n15 ?_ | with_reducible refine Rd.g0 ?_ | with_reducible refine Rd.g1 ?_ | with_reducible refine Rd.g2 ?_ | with_reducible refine Rd.g3 ?_ | with_reducible refine Rd.g4 ?_ | with_reducible refine Rd.g5 ?_ | with_reducible refine Rd.g6 ?_ | with_reducible refine Rd.g7 ?_ | with_reducible refine Rd.g8 ?_ | with_reducible refine Rd.g9 ?_ | with_reducible refine Rd.g10 ?_ | with_reducible refine Rd.g11 ?_ | with_reducible refine Rd.g12 ?_ | with_reducible refine Rd.g13 ?_ | with_reducible refine Rd.g14 ?_ | with_reducible refine Rd.g15 ?_ | ((with_reducible apply Rd.glst); (first | assumption | exact upd_same); exact rfl) | ((with_reducible apply Rd.gtP); assumption; assumption) | ((with_reducible apply Rd.revq); first | assumption | exact SqL.of (by assumption)) | ((with_reducible apply Rd.fldI); (first | assumption | exact upd_same); assumption; assumption; (first | assumption | with_unfolding_all rfl)) | ((with_reducible apply Rd.methI); (first | assumption | exact upd_same); (first | assumption | with_unfolding_all rfl)) | ((with_reducible apply Rd.sfldI); (first | assumption | exact upd_same); assumption; assumption; exact Nat.le_of_ble_eq_true rfl) | ((with_reducible apply Rd.maxL); assumption) | ((with_reducible apply Rd.anyL); assumption) | ((with_reducible apply Rd.sumL); assumption) | ((with_reducible refine Rd.izI (by assumption) (by assumption) ?_)) | ((with_reducible refine Rd.eq ?_ ?_); exact rfl) | ((with_reducible refine Rd.ne ?_ ?_); exact rfl) | ((with_reducible refine Rd.szA ?_ ?_); exact Nat.le_of_ble_eq_true rfl) | ((with_reducible refine Rd.I ?_ ?_); first | assumption | decide | exact Or.inr (by decide +kernel) | exact Or.inl (by decide +kernel) | exact ⟨by decide, by decide⟩ | exact ⟨by decide, by decide, by decide⟩ | omega) | ((with_reducible apply Rd.tyL); first | assumption | exact upd_same) | ((with_reducible apply Rd.tyLq); assumption) | ((with_reducible apply Rd.ixL); (first | assumption | exact upd_same); exact rfl) | ((with_reducible apply Rd.ixT); (first | assumption | exact upd_same); exact rfl) | ((with_reducible apply Rd.ixLq); assumption; exact rfl) | ((with_reducible apply Rd.ixTq); assumption; exact rfl) | ((with_reducible apply Rd.gtup); (first | assumption | exact upd_same); exact rfl) | ((with_reducible apply Rd.gtupq); assumption; exact rfl) | ((with_reducible apply Rd.sqAq); assumption) | ((with_reducible apply Rd.stAq); assumption) | ((with_reducible apply Rd.enAq); assumption) | ((with_reducible apply Rd.lenLq); assumption) | ((with_reducible apply Rd.lenTq); assumption) | ((with_reducible apply Rd.sqA); first | assumption | exact upd_same) | ((with_reducible apply Rd.stA); first | assumption | exact upd_same) | ((with_reducible apply Rd.enA); first | assumption | exact upd_same) | ((with_reducible apply Rd.lenL); first | assumption | exact upd_same) | ((with_reducible apply Rd.lenT); first | assumption | exact upd_same) | ((with_reducible refine Rd.nwT ?_ ?_); exact Nat.le_of_ble_eq_true rfl) | ((with_reducible refine Rd.nwL ?_ ?_); exact Nat.le_of_ble_eq_true rfl) | ((with_reducible apply Rd.listOf); assumption) | ((with_reducible apply Rd.listOfq); assumption) | ((with_reducible apply Rd.slo); assumption) | ((with_reducible apply Rd.slq); assumption) | ((with_reducible apply Rd.srtI); assumption) | ((with_reducible apply Rd.srtIo); assumption) | ((with_reducible refine Rd.isi_li (by assumption) ?_)) | ((with_reducible refine Rd.isi_lb (by assumption) ?_)) | ((with_reducible refine Rd.isi_ls (by assumption) ?_)) | ((with_reducible refine Rd.isi_ll (by assumption) ?_)) | ((with_reducible refine Rd.isi_lt (by assumption) ?_)) | ((with_reducible refine Rd.isi_ld (by assumption) ?_)) | ((with_reducible refine Rd.isi_ti (by assumption) ?_)) | ((with_reducible refine Rd.isi_tb (by assumption) ?_)) | ((with_reducible refine Rd.isi_ts (by assumption) ?_)) | ((with_reducible refine Rd.isi_tl (by assumption) ?_)) | ((with_reducible refine Rd.isi_tt (by assumption) ?_)) | ((with_reducible refine Rd.isi_td (by assumption) ?_)))))

/-! ### the rows are the same -/
def RowsAt (H : Hp) (F : Addr) (rows : List (List Int)) : Prop := ∃ ls : List Addr, H F = some (.lst (ls.map V.ref)) ∧ ls.length = rows.length ∧ ∀ (i : Nat) a r, ls[i]? = some a → rows[i]? = some r → H a = some (.lst (r.map V.int))
section
variable {P : Program} {w : World} {K : PySem.W.Frag} {mg : Str → Option Value} {base : Heap}
def sp__law_same (K : PySem.W.Frag) : Sp := fun vs H Q _ => ∃ (A B : Addr) (rows : List (List Int)), vs = [.ref A, .ref B] ∧ RowsAt H A rows ∧ RowsAt H B rows ∧ rows.length ≤ 1000 ∧ (∀ r ∈ rows, r.length ≤ 1000) ∧ Q (.bl true) H
theorem ok__law_same (T : Top K mg) : FnOk P w K mg base CX0 1 T.a__law_same T.d__law_same ["actual", "due"]  (sp__law_same K) := by
  refine T.F__law_same.ok sc__law_same (fun vs H Q E h => ?_) (fun cdv A outer s H vs Q E hr h => ?_)
  · obtain ⟨_, _, _, rfl, _⟩ := h
    rfl
  · obtain ⟨A, B, rows, rfl, ⟨la, hA, l1, g1⟩, ⟨lb, hB, l2, g2⟩, lr, sr, q⟩ := h
    refine ⟨_, (pss_cons (ps_if (pw_or (pt_not (pt_val (pe_callB call_isi (by rfl) T.m_isinstance (by decide +kernel) (pa_cons (pv 0) (pa_cons (pe_ty (T := "list") (by rfl) T.m_list (by decide +kernel)) pa_nil))))) (pw_or1 (pt_cmpR op_ne (pe_callB call_len_seq (by rfl) T.m_len PySem.boot_len (pa_cons (pv 0) pa_nil)) (pe_callB call_len_seq (by rfl) T.m_len PySem.boot_len (pa_cons (pv 1) pa_nil)) (nomark _)))).pt
  (pss_one (ps_ret pe_bl))
  pss_nil)
  (pss_cons (ps_for PassesOwn.never rfl (pi_range1 (by rfl) T.m_range (pa_cons (pe_callB call_len_seq (by rfl) T.m_len PySem.boot_len (pa_cons (pv 1) pa_nil)) pa_nil)) (pg_name (i := 2) sc__law_same.nd rfl (by first | exact Or.inl rfl | exact Or.inr rfl))
  (pss_cons (ps_if (pw_or (pt_not (pt_val (pe_callB call_isi (by rfl) T.m_isinstance (by decide +kernel) (pa_cons (pe_ix ix_list (pv 0) (pv 2) (fun _ _ => rfl)) (pa_cons (pe_ty (T := "list") (by rfl) T.m_list (by decide +kernel)) pa_nil))))) (pw_or1 (pt_cmpR op_ne (pe_callB call_len_seq (by rfl) T.m_len PySem.boot_len (pa_cons (pe_ix ix_list (pv 0) (pv 2) (fun _ _ => rfl)) pa_nil)) (pe_callB call_len_seq (by rfl) T.m_len PySem.boot_len (pa_cons (pe_ix ix_list (pv 1) (pv 2) (fun _ _ => rfl)) pa_nil)) (nomark _)))).pt
  (pss_one (ps_ret pe_bl))
  pss_nil)
  (pss_one (ps_for PassesOwn.never rfl (pi_range1 (by rfl) T.m_range (pa_cons (pe_callB call_len_seq (by rfl) T.m_len PySem.boot_len (pa_cons (pe_ix ix_list (pv 1) (pv 2) (fun _ _ => rfl)) pa_nil)) pa_nil)) (pg_name (i := 3) sc__law_same.nd rfl (by first | exact Or.inl rfl | exact Or.inr rfl))
  (pss_cons (ps_set (i := 4) sc__law_same.nd rfl (by first | exact Or.inl rfl | exact Or.inr rfl) (pe_ix ix_list (pe_ix ix_list (pv 0) (pv 2) (fun _ _ => rfl)) (pv 3) (fun _ _ => rfl)))
  (pss_one (ps_if (pw_or (pt_not (pt_val (pe_callB call_isi (by rfl) T.m_isinstance (by decide +kernel) (pa_cons (pv 4) (pa_cons (pe_ty (T := "int") (by rfl) T.m_int (by decide +kernel)) pa_nil))))) (pw_or (pt_val (pe_callB call_isi (by rfl) T.m_isinstance (by decide +kernel) (pa_cons (pv 4) (pa_cons (pe_ty (T := "bool") (by rfl) T.m_bool (by decide +kernel)) pa_nil)))) (pw_or1 (pt_cmpR op_ne (pv 4) (pe_ix ix_list (pe_ix ix_list (pv 1) (pv 2) (fun _ _ => rfl)) (pv 3) (fun _ _ => rfl)) (nomark _))))).pt
  (pss_one (ps_ret pe_bl))
  pss_nil)))))))
  (pss_one (ps_ret pe_bl)))), ?_⟩
    rw [show ∀ a0 a1 : V, L2.start ["actual", "due", "k", "j", "item"] [a0, a1] = [some a0, some a1, none, none, none] from fun _ _ => rfl]
    walk_at "my rn"
    rw [decide_eq_true (by rw [List.length_map, List.length_map, l1, l2])]
    refine Rd.ifnT ?_
    walk_at "my rn"
    refine ⟨by rw [List.length_map]; omega, by rw [List.length_map]; omega, ?_⟩
    rw [Int.toNat_natCast]
    refine for_it walk_range (fun k σ H' => H' = H ∧ ∃ (y2 y3 y4 : Option V), σ = [some (.ref A), some (.ref B), y2, y3, y4]) ⟨rfl, none, none, none, rfl⟩ (fun _ _ _ _ _ => trivial) ?_ ?_
    · rintro k x σ H1o H1 hk ⟨rfl, y2, y3, y4, rfl⟩ yy
      obtain ⟨rfl, e3⟩ := Rd.zr yy
      subst e3
      rw [List.length_map] at hk
      obtain ⟨r, hr⟩ : ∃ r, rows[k]? = some r := ⟨_, List.getElem?_eq_getElem (by omega)⟩
      obtain ⟨a, ha⟩ : ∃ r, la[k]? = some r := ⟨_, List.getElem?_eq_getElem (by omega)⟩
      obtain ⟨b, hb⟩ : ∃ r, lb[k]? = some r := ⟨_, List.getElem?_eq_getElem (by omega)⟩
      have ea := g1 k a r ha hr
      have eb := g2 k b r hb hr
      have lrr := sr r (List.mem_of_getElem? hr)
      have ia : ((la.map V.ref))[k]? = some (.ref a) := by rw [List.getElem?_map, ha]; rfl
      have ib : ((lb.map V.ref))[k]? = some (.ref b) := by rw [List.getElem?_map, hb]; rfl
      walk_at "my rn"
      refine Rd.ixLq (SqL.of hA) (Rd.at_val (j := k) rfl ia) ?_
      walk_at "my rn"
      refine Rd.ixLq (SqL.of hA) (Rd.at_val (j := k) rfl ia) ?_
      walk_at "my rn"
      refine Rd.ixLq (SqL.of hB) (Rd.at_val (j := k) rfl ib) ?_
      walk_at "my rn"
      rw [decide_eq_true rfl]
      refine Rd.ifnT ?_
      walk_at "my rn"
      refine Rd.ixLq (SqL.of hB) (Rd.at_val (j := k) rfl ib) ?_
      walk_at "my rn"
      refine ⟨by rw [List.length_map]; omega, by rw [List.length_map]; omega, ?_⟩
      rw [Int.toNat_natCast]
      refine for_it walk_range (fun j σ H' => H' = H1 ∧ ∃ (y3 y4 : Option V), σ = [some (.ref A), some (.ref B), some (.int (k : Int)), y3, y4]) ⟨rfl, _, _, rfl⟩ (fun _ _ _ _ _ => trivial) ?_ ?_
      · rintro j x σ H2o H2 hj ⟨rfl, y3, y4, rfl⟩ yy
        obtain ⟨rfl, e3⟩ := Rd.zr yy
        subst e3
        rw [List.length_map] at hj
        obtain ⟨z, hz⟩ : ∃ z, r[j]? = some z := ⟨_, List.getElem?_eq_getElem hj⟩
        have iz : (r.map V.int)[j]? = some (.int z) := by rw [List.getElem?_map, hz]; rfl
        walk_at "my rn"
        refine Rd.ixLq (SqL.of hA) (Rd.at_val (j := k) rfl ia) ?_
        walk_at "my rn"
        refine Rd.ixLq (SqL.of ea) (Rd.at_val (j := j) rfl iz) ?_
        walk_at "my rn"
        refine Rd.ixLq (SqL.of hB) (Rd.at_val (j := k) rfl ib) ?_
        walk_at "my rn"
        refine Rd.ixLq (SqL.of eb) (Rd.at_val (j := j) rfl iz) ?_
        walk_at "my rn"
        rw [decide_eq_true rfl]
        refine Rd.ifnT ?_
        exact ⟨rfl, _, _, rfl⟩
      · rintro σ H2 ⟨rfl, y3, y4, rfl⟩
        exact ⟨rfl, _, _, _, rfl⟩
    · rintro σ H1 ⟨rfl, y2, y3, y4, rfl⟩
      walk_at "my rn"
      exact q
end

end Mine

set_option Elab.async false
set_option linter.all false
set_option maxRecDepth 100000
set_option maxHeartbeats 1000000

--@@rec _law_expr _law_body _law_statement _copied _copied_statement _law_names

--@@guards
namespace Mine
open PySem PySem.Spec PyProof.Rows L2

/-! ### how long data is when it is shown -/
structure Rp (m n : Nat) (d : PyData) : Prop where
  sh : d.showable = true
  nd : d.hasDict = false
  dp : d.depth ≤ m
  ln : d.shown.length ≤ n
structure RpL (m n : Nat) (ds : List PyData) : Prop where
  sh : PyData.showableAll ds = true
  nd : PyData.hasDictAll ds = false
  dp : PyData.depthAll ds ≤ m
  ln : piled (PyData.shownAll ds) ≤ n
theorem Rp.mono {m n m' n' : Nat} {d : PyData} (h : Rp m n d) (h1 : m ≤ m') (h2 : n ≤ n') : Rp m' n' d := ⟨h.sh, h.nd, Nat.le_trans h.dp h1, Nat.le_trans h.ln h2⟩
theorem RpL.mono {m n m' n' : Nat} {d : List PyData} (h : RpL m n d) (h1 : m ≤ m') (h2 : n ≤ n') : RpL m' n' d := ⟨h.sh, h.nd, Nat.le_trans h.dp h1, Nat.le_trans h.ln h2⟩
theorem RpL.nil {m : Nat} : RpL m 0 [] := ⟨rfl, rfl, Nat.zero_le _, Nat.le_refl _⟩
theorem RpL.cons {m n k : Nat} {d : PyData} {ds : List PyData} (h : Rp m n d) (g : RpL m k ds) : RpL m (n + 2 + k) (d :: ds) := by
  refine ⟨?_, ?_, ?_, ?_⟩
  · show (d.showable && PyData.showableAll ds) = true
    rw [h.sh, g.sh]; rfl
  · show (d.hasDict || PyData.hasDictAll ds) = false
    rw [h.nd, g.nd]; rfl
  · show max d.depth (PyData.depthAll ds) ≤ m
    exact Nat.max_le.mpr ⟨h.dp, g.dp⟩
  · show piled (d.shown :: PyData.shownAll ds) ≤ _
    rw [piled_cons]
    have := h.ln
    have := g.ln
    omega
theorem RpL.all {m n : Nat} : ∀ {ds : List PyData}, (∀ d ∈ ds, Rp m n d) → RpL m (ds.length * (n + 2)) ds
  | [], _ => RpL.nil.mono (Nat.le_refl _) (Nat.zero_le _)
  | d :: r, h => by
    refine (RpL.cons (h d (List.mem_cons_self ..)) (RpL.all fun e m => h e (List.mem_cons_of_mem _ m))).mono (Nat.le_refl _) ?_
    rw [List.length_cons, Nat.succ_mul]
    omega
theorem RpL.upto {m n k : Nat} {ds : List PyData} (h : ∀ d ∈ ds, Rp m n d) (l : ds.length ≤ k) : RpL m (k * (n + 2)) ds := (RpL.all h).mono (Nat.le_refl _) (Nat.mul_le_mul l (Nat.le_refl _))
theorem join_len (ts : List Str) : (Str.join ", " ts).length ≤ piled ts := by
  by_cases h : ts = []
  · subst h; exact Nat.le_refl _
  · have := join_length_add ts h
    omega
theorem textFrom_le : ∀ (ts : List Str) (k : Nat) (acc : Str), (textFrom k acc ts).length ≤ acc.length + piled ts
  | [], _, _ => Nat.le_add_right _ _
  | t :: r, k, acc => by
    have h := textFrom_le r (k + 1) (acc ++ (if k > 0 then ", " else "" : String) ++ t)
    have e : (acc ++ (if k > 0 then ", " else "" : String) ++ t).length ≤ acc.length + 2 + t.length := by
      rw [strLen_append, strLen_append]
      split
      · have : ((", " : String) : Str).length = 2 := rfl
        omega
      · have : (("" : String) : Str).length = 0 := rfl
        omega
    rw [piled_cons]
    show (textFrom (k + 1) _ r).length ≤ _
    omega
theorem RpL.tup {m n : Nat} {ds : List PyData} (h : RpL m n ds) : Rp (m + 1) (n + 3) (.tuple ds) := by
  refine ⟨h.sh, h.nd, ?_, ?_⟩
  · show PyData.depthAll ds + 1 ≤ _
    have := h.dp
    omega
  · show (tupleText (PyData.shownAll ds)).length ≤ _
    unfold tupleText
    rw [strLen_append, strLen_append]
    have e1 : ((("(" : String) : Str)).length = 1 := rfl
    have e3 : (((if (PyData.shownAll ds).length == 1 then ",)" else ")" : String) : Str)).length ≤ 2 := by split <;> decide
    have := join_len (PyData.shownAll ds)
    have := h.ln
    omega
theorem RpL.lst {m n : Nat} {ds : List PyData} (h : RpL m n ds) : Rp (m + 1) (n + 3) (.list ds) := by
  refine ⟨h.sh, h.nd, ?_, ?_⟩
  · show PyData.depthAll ds + 1 ≤ _
    have := h.dp
    omega
  · show (listText (PyData.shownAll ds)).length ≤ _
    unfold listText
    rw [strLen_append]
    have := textFrom_le (PyData.shownAll ds) 0 "["
    have e1 : ((("[" : String) : Str)).length = 1 := rfl
    have e2 : ((("]" : String) : Str)).length = 1 := rfl
    have := h.ln
    omega
/-- a short string of plain signs -/
def Ok (k : Nat) (s : Str) : Prop := s.length ≤ k ∧ ∀ c ∈ s.cps.toList, c < 16 ^ 8
instance (k : Nat) (s : Str) : Decidable (Ok k s) := by unfold Ok; infer_instance
theorem Rp.str {k : Nat} {s : Str} (h : Ok k s) : Rp 0 (10 * k + 2) (.str s) := ⟨rfl, rfl, Nat.le_refl _, by
  show (reprText s).length ≤ _
  have := StrLaws.reprText_len s h.2
  have := h.1
  omega⟩
theorem Rp.none {m n : Nat} (h : 4 ≤ n) : Rp m n .none := ⟨rfl, rfl, Nat.zero_le _, h⟩
theorem Rp.nat {i : Int} (h0 : 0 ≤ i) (h1 : i < 4294967296) : Rp 0 52 (.int i) := by
  obtain ⟨n, rfl⟩ : ∃ n : Nat, i = n := ⟨i.toNat, by omega⟩
  refine ⟨decide_eq_true (dec_log n (by omega)), rfl, Nat.le_refl _, ?_⟩
  have := dec_str n (by omega)
  show (Str.ofString (toString ((n : Nat) : Int))).length ≤ 52
  omega
/-- the names of an env are short -/
structure EnvN (g : Env) : Prop where
  cells : ∀ q ∈ g.cells, Ok 5 q.1
  vars : ∀ s ∈ g.vars, Ok 5 s
  ports : ∀ q ∈ g.ports, Ok 5 q.2
  calls : ∀ q ∈ g.calls, Ok 5 q.1 ∧ Ok 5 q.2.1 ∧ q.2.2 ≤ 2
def exN : Nat → Nat
  | 0 => 52
  | k + 1 => 3 * exN k + 9
theorem exN_ge : ∀ k, 52 ≤ exN k
  | 0 => Nat.le_refl _
  | k + 1 => by have := exN_ge k; show 52 ≤ 3 * exN k + 9; omega
theorem uns_ok : ∀ s ∈ UNS, Ok 5 s := by decide +kernel
theorem bins_ok : ∀ s ∈ BINS, Ok 5 s := by decide +kernel
theorem Rp.s5 {m n : Nat} {s : Str} (h : Ok 5 s) (hn : 52 ≤ n) : Rp m n (.str s) := (Rp.str h).mono (Nat.zero_le _) hn
theorem ex_rp {g : Env} (en : EnvN g) : ∀ (e : Ex) (k : Nat), ExW g e → e.depth ≤ k → Rp k (exN k) e.d := by
  intro e
  induction e with
  | num n =>
    intro k h l
    obtain ⟨k, rfl⟩ : ∃ j, k = j + 1 := ⟨k - 1, by have : 1 ≤ k := l; omega⟩
    have g1 := exN_ge k
    refine (RpL.cons (Rp.s5 (by decide +kernel) g1) (.cons ((Rp.nat h.1 h.2).mono (Nat.zero_le _) g1) .nil)).tup.mono (Nat.le_refl _) ?_
    show _ ≤ 3 * exN k + 9
    omega
  | cell s =>
    intro k h l
    obtain ⟨k, rfl⟩ : ∃ j, k = j + 1 := ⟨k - 1, by have : 1 ≤ k := l; omega⟩
    have g1 := exN_ge k
    have hs : Ok 5 s := h.elim (fun m => en.cells _ m) (en.vars s)
    refine (RpL.cons (Rp.s5 (by decide +kernel) g1) (.cons (Rp.s5 hs g1) .nil)).tup.mono (Nat.le_refl _) ?_
    show _ ≤ 3 * exN k + 9
    omega
  | «at» s i ih =>
    intro k h l
    have l2 : 1 + i.depth ≤ k := l
    obtain ⟨k, rfl⟩ : ∃ j, k = j + 1 := ⟨k - 1, by omega⟩
    have g1 := exN_ge k
    obtain ⟨⟨z, _, m⟩, hi⟩ := h
    refine (RpL.cons (Rp.s5 (by decide +kernel) g1) (.cons (Rp.s5 (en.cells _ m) g1) (.cons (ih k hi (by omega)) .nil))).tup.mono (Nat.le_refl _) ?_
    show _ ≤ 3 * exN k + 9
    omega
  | un s i ih =>
    intro k h l
    have l2 : 1 + i.depth ≤ k := l
    obtain ⟨k, rfl⟩ : ∃ j, k = j + 1 := ⟨k - 1, by omega⟩
    have g1 := exN_ge k
    obtain ⟨hs, hi⟩ := h
    refine (RpL.cons (Rp.s5 (uns_ok s hs) g1) (.cons (ih k hi (by omega)) .nil)).tup.mono (Nat.le_refl _) ?_
    show _ ≤ 3 * exN k + 9
    omega
  | bin s a b iha ihb =>
    intro k h l
    have l2 : 1 + max a.depth b.depth ≤ k := l
    obtain ⟨k, rfl⟩ : ∃ j, k = j + 1 := ⟨k - 1, by omega⟩
    have g1 := exN_ge k
    obtain ⟨hs, ha, hb⟩ := h
    refine (RpL.cons (Rp.s5 (bins_ok s hs) g1) (.cons (iha k ha (by omega)) (.cons (ihb k hb (by omega)) .nil))).tup.mono (Nat.le_refl _) ?_
    show _ ≤ 3 * exN k + 9
    omega
theorem pl_rp {g : Env} (en : EnvN g) (p : Pl) (h : PlW g p) : Rp 3 1521 p.d := by
  cases p with
  | cell s =>
    exact (RpL.cons (m := 2) (Rp.s5 (n := 52) (by decide +kernel) (by decide)) (.cons (Rp.s5 (n := 52) (en.cells _ h) (by decide)) .nil)).tup.mono (by decide) (by decide)
  | «at» s i =>
    obtain ⟨⟨z, _, m⟩, hi, hd⟩ := h
    exact (RpL.cons (Rp.s5 (n := 52) (by decide +kernel) (by decide)) (.cons (Rp.s5 (n := 52) (en.cells _ m) (by decide)) (.cons (ex_rp en i 2 hi hd) .nil))).tup.mono (by decide) (by decide)
/-- a body at this level -/
def stN : Nat → Nat
  | 0 => 7618
  | n + 1 => 5 * ((n + 1) * (stN n + 2) + 3 + 2) + 3
def bdN (n : Nat) : Nat := (n + 1) * (stN n + 2) + 3
theorem stN_ge : ∀ n, 7618 ≤ stN n
  | 0 => Nat.le_refl _
  | n + 1 => by
    have := stN_ge n
    have h : 1 * (stN n + 2) ≤ (n + 1) * (stN n + 2) := Nat.mul_le_mul (by omega) (Nat.le_refl _)
    show 7618 ≤ 5 * ((n + 1) * (stN n + 2) + 3 + 2) + 3
    omega
theorem bdN_ge (n : Nat) : 7618 ≤ bdN n := by
  have := stN_ge n
  have h : 1 * (stN n + 2) ≤ (n + 1) * (stN n + 2) := Nat.mul_le_mul (by omega) (Nat.le_refl _)
  unfold bdN
  omega
theorem opt_rp {m n : Nat} {o : Option PyData} (h : ∀ d, o = some d → Rp m n d) (h4 : 4 ≤ n) : Rp m n (optD o) := by
  cases o with
  | none => exact Rp.none h4
  | some d => exact h d rfl
theorem stmsw_mem {g : Env} {n : Nat} : ∀ {b : List Stm}, StmsW g n b → ∀ s ∈ b, StW g n s
  | [], _, s, m => by cases m
  | a :: r, h, s, m => by
    unfold StmsW at h
    rcases List.mem_cons.mp m with rfl | m
    · exact h.1
    · exact stmsw_mem h.2 s m
theorem set_rp {g : Env} (en : EnvN g) {p : Pl} {e : Ex} (h1 : PlW g p) (h2 : ExW g e) (h3 : e.depth ≤ 3) : Rp 4 7618 (Stm.set p e).d :=
  (RpL.cons (Rp.s5 (n := 52) (by decide +kernel) (by decide)) (.cons (pl_rp en p h1) (.cons (ex_rp en e 3 h2 h3) .nil))).tup.mono (by decide) (by decide)
theorem read_rp {g : Env} (en : EnvN g) {p : Pl} {t : Str} (h1 : PlW g p) (h2 : Ok 5 t) : Rp 4 7618 (Stm.read p t).d :=
  (RpL.cons (Rp.s5 (n := 52) (by decide +kernel) (by decide)) (.cons (pl_rp en p h1) (.cons (Rp.s5 (n := 52) h2 (by decide)) .nil))).tup.mono (by decide) (by decide)
theorem write_rp {g : Env} (en : EnvN g) {t : Str} {e : Ex} (h1 : Ok 5 t) (h2 : ExW g e) (h3 : e.depth ≤ 3) : Rp 4 7618 (Stm.write t e).d :=
  (RpL.cons (Rp.s5 (n := 52) (by decide +kernel) (by decide)) (.cons (Rp.s5 (n := 52) h1 (by decide)) (.cons (ex_rp en e 3 h2 h3) .nil))).tup.mono (by decide) (by decide)
theorem call_rp {g : Env} (en : EnvN g) {p : Option Pl} {o op : Str} {as : List Ex} (h1 : (o, op, as.length) ∈ g.calls) (h2 : ∀ e ∈ as, ExW g e ∧ e.depth ≤ 2) (h3 : ∀ q, p = some q → PlW g q) : Rp 4 7618 (Stm.call p o op as).d := by
  obtain ⟨k1, k2, k3⟩ := en.calls _ h1
  have ha : RpL 2 (2 * (504 + 2)) (as.map Ex.d) := RpL.upto (fun d m => by
    obtain ⟨e, me, rfl⟩ := List.mem_map.mp m
    exact ex_rp en e 2 (h2 e me).1 (h2 e me).2) (by rw [List.length_map]; exact k3)
  exact (RpL.cons (m := 3) (Rp.s5 (n := 52) (by decide +kernel) (by decide)) (.cons (opt_rp (n := 1521) (fun d e => by
    cases p with
    | none => cases e
    | some q => cases e; exact pl_rp en q (h3 q rfl)) (by decide)) (.cons (Rp.s5 (n := 52) k1 (by decide)) (.cons (Rp.s5 (n := 52) k2 (by decide)) (.cons ha.lst .nil))))).tup.mono (by decide) (by decide)
theorem loopName_ok : ∀ n, n ≤ 2 → Ok 5 (loopName n) := by
  intro n h
  have : n = 0 ∨ n = 1 ∨ n = 2 := by omega
  rcases this with rfl | rfl | rfl <;> decide +kernel
theorem bd_of {g : Env} {n : Nat} (hs : ∀ s, StW g n s → Rp (4 + 2 * n) (stN n) s.d) {b : List Stm} (h : BodyW g n b) : Rp (5 + 2 * n) (bdN n) (.list (stmsD b)) := by
  unfold BodyW at h
  refine (RpL.lst (RpL.upto (m := 4 + 2 * n) (n := stN n) (k := n + 1) (fun d m => ?_) (by rw [stmsD_map, List.length_map]; exact h.1))).mono (by omega) (Nat.le_refl _)
  rw [stmsD_map] at m
  obtain ⟨s, ms, rfl⟩ := List.mem_map.mp m
  exact hs s (stmsw_mem h.2 s ms)
theorem st_rp : ∀ (n : Nat) (g : Env), EnvN g → n ≤ 2 → ∀ s, StW g n s → Rp (4 + 2 * n) (stN n) s.d
  | n, g, en, hn, .set p e, h => by
    have h : PlW g p ∧ ExW g e ∧ e.depth ≤ 3 := by cases n <;> exact (by unfold StW at h; exact h)
    exact (set_rp en h.1 h.2.1 h.2.2).mono (by omega) (stN_ge n)
  | n, g, en, hn, .read p t, h => by
    have h : PlW g p ∧ (("in" : Str), t) ∈ g.ports := by cases n <;> exact (by unfold StW at h; exact h)
    exact (read_rp en h.1 (en.ports _ h.2)).mono (by omega) (stN_ge n)
  | n, g, en, hn, .write t e, h => by
    have h : (("out" : Str), t) ∈ g.ports ∧ ExW g e ∧ e.depth ≤ 3 := by cases n <;> exact (by unfold StW at h; exact h)
    exact (write_rp en (en.ports _ h.1) h.2.1 h.2.2).mono (by omega) (stN_ge n)
  | n, g, en, hn, .call p o op as, h => by
    have h : (o, op, as.length) ∈ g.calls ∧ (∀ e ∈ as, ExW g e ∧ e.depth ≤ 2) ∧ ∀ q, p = some q → PlW g q := by cases n <;> exact (by unfold StW at h; exact h)
    exact (call_rp en h.1 h.2.1 h.2.2).mono (by omega) (stN_ge n)
  | 0, g, en, hn, .ifs e a b, h => by unfold StW at h; exact h.elim
  | 0, g, en, hn, .loop x k e b, h => by unfold StW at h; exact h.elim
  | n + 1, g, en, hn, .ifs e a b, h => by
    unfold StW at h
    have ih := st_rp n g en (by omega)
    have bb := bdN_ge n
    refine (RpL.cons (m := 5 + 2 * n) (Rp.s5 (n := 52) (by decide +kernel) (by decide)) (.cons ((ex_rp en e 2 h.1 h.2.1).mono (by omega) (Nat.le_refl _)) (.cons (bd_of ih h.2.2.1) (.cons (bd_of ih h.2.2.2) .nil)))).tup.mono (by omega) ?_
    show _ ≤ 5 * (bdN n + 2) + 3
    have : exN 2 = 504 := rfl
    omega
  | n + 1, g, en, hn, .loop x k e b, h => by
    unfold StW at h
    obtain ⟨rfl, _, k1, k4, he, hb⟩ := h
    have nm := loopName_ok (n + 1) hn
    have ih := st_rp n { g with vars := g.vars ++ [loopName (n + 1)], loops := g.loops - 1 } ⟨en.cells, fun s m => by
      rcases List.mem_append.mp m with m | m
      · exact en.vars s m
      · rw [List.mem_singleton.mp m]; exact nm, en.ports, en.calls⟩ (by omega)
    have bb := bdN_ge n
    refine (RpL.cons (m := 5 + 2 * n) (Rp.s5 (n := 52) (by decide +kernel) (by decide)) (.cons (Rp.s5 (n := 52) nm (by decide)) (.cons ((Rp.nat (by omega) (by omega)).mono (Nat.zero_le _) (Nat.le_refl _)) (.cons (opt_rp (n := 504) (fun d z => by
      cases e with
      | none => cases z
      | some f => cases z; exact (ex_rp en f 2 (he f rfl).1 (he f rfl).2).mono (by omega) (Nat.le_refl _)) (by decide)) (.cons (bd_of ih hb) .nil))))).tup.mono (by omega) ?_
    show _ ≤ 5 * (bdN n + 2) + 3
    omega

end Mine

set_option Elab.async false
set_option linter.all false
set_option maxRecDepth 100000
set_option maxHeartbeats 1000000

--@@rec _law_expr _law_body _law_statement _copied _copied_statement _law_names

--@@guards
namespace Mine
open PySem PySem.Spec PyProof.Rows L2

/-! ### the law's programs are well formed -/
def fN : Nat → Nat
  | 0 => 1
  | n + 1 => 1 + 2 * ((n + 1) * fN n)
structure FlatG (g : Env) (n m : Nat) (b : List Stm) : Prop where
  ne : nests b ≤ n
  fl : (flats b).length ≤ m
  ca : ∀ nm ∈ callsN b, nm ∈ g.calls.map (·.1)
theorem FlatG.nil {g : Env} {n : Nat} : FlatG g n 0 [] := ⟨Nat.zero_le _, Nat.le_refl _, fun _ m => by cases m⟩
theorem FlatG.app {g : Env} {n m k : Nat} {a b : List Stm} (h : FlatG g n m a) (q : FlatG g n k b) : FlatG g n (m + k) (a ++ b) := by
  refine ⟨?_, ?_, fun nm mm => ?_⟩
  · have : nests (a ++ b) = max (nests a) (nests b) := by
      clear h q
      induction a with
      | nil => show nests b = max 0 (nests b); omega
      | cons s r ih =>
        show max s.nest (nests (r ++ b)) = max (max s.nest (nests r)) (nests b)
        rw [ih]; omega
    rw [this]
    exact Nat.max_le.mpr ⟨h.ne, q.ne⟩
  · rw [flats_app, List.length_append]
    exact Nat.add_le_add h.fl q.fl
  · rw [callsN_app] at mm
    exact (List.mem_append.mp mm).elim (h.ca nm) (q.ca nm)
theorem FlatG.all {g : Env} {n m : Nat} : ∀ {b : List Stm}, (∀ s ∈ b, FlatG g n m [s]) → FlatG g n (b.length * m) b
  | [], _ => by rw [List.length_nil, Nat.zero_mul]; exact .nil
  | s :: r, h => by
    have := (h s (List.mem_cons_self ..)).app (FlatG.all (b := r) fun t mt => h t (List.mem_cons_of_mem _ mt))
    rw [List.length_cons, Nat.succ_mul, Nat.add_comm]
    exact this
theorem fl_of {g : Env} {n : Nat} (hs : ∀ s, StW g n s → FlatG g n (fN n) [s]) {b : List Stm} (h : BodyW g n b) : FlatG g n ((n + 1) * fN n) b := by
  unfold BodyW at h
  have f := FlatG.all (b := b) fun s ms => hs s (stmsw_mem h.2 s ms)
  exact ⟨f.ne, Nat.le_trans f.fl (Nat.mul_le_mul h.1 (Nat.le_refl _)), f.ca⟩
theorem fN_ge : ∀ n, 1 ≤ fN n
  | 0 => Nat.le_refl _
  | n + 1 => Nat.le_add_right _ _
theorem one_fl {g : Env} {n m : Nat} {s : Stm} (h1 : s.kids = []) (h2 : s.nest = 0) (hm : 1 ≤ m) (h3 : ∀ nm, callN s = some nm → nm ∈ g.calls.map (·.1)) : FlatG g n m [s] := by
  refine ⟨?_, ?_, fun nm mm => ?_⟩
  · show max s.nest 0 ≤ n
    rw [h2]; exact Nat.zero_le _
  · have e : flats [s] = s :: flats s.kids := by
      show s.flat ++ [] = _
      rw [List.append_nil, flat_kids]
    rw [e, h1]
    exact hm
  · rw [callsN_one, h1] at mm
    cases z : callN s with
    | none => rw [z] at mm; cases mm
    | some x =>
      rw [z] at mm
      have : nm = x := by simpa [callsN, flats] using mm
      rw [this]; exact h3 x z
theorem st_fl : ∀ (n : Nat) (g : Env), ∀ s, StW g n s → FlatG g n (fN n) [s]
  | n, g, .set p e, h => one_fl rfl rfl (fN_ge n) (fun _ z => by cases z)
  | n, g, .read p t, h => one_fl rfl rfl (fN_ge n) (fun _ z => by cases z)
  | n, g, .write t e, h => one_fl rfl rfl (fN_ge n) (fun _ z => by cases z)
  | n, g, .call p o op as, h => by
    have h : (o, op, as.length) ∈ g.calls ∧ (∀ e ∈ as, ExW g e ∧ e.depth ≤ 2) ∧ ∀ q, p = some q → PlW g q := by cases n <;> exact (by unfold StW at h; exact h)
    exact one_fl rfl rfl (fN_ge n) (fun _ z => by cases z; exact List.mem_map.mpr ⟨_, h.1, rfl⟩)
  | 0, g, .ifs e a b, h => by unfold StW at h; exact h.elim
  | 0, g, .loop x k e b, h => by unfold StW at h; exact h.elim
  | n + 1, g, .ifs e a b, h => by
    unfold StW at h
    have ih := st_fl n g
    have fa := fl_of ih h.2.2.1
    have fb := fl_of ih h.2.2.2
    refine ⟨?_, ?_, fun nm mm => ?_⟩
    · show max (1 + max (nests a) (nests b)) 0 ≤ n + 1
      have := fa.ne
      have := fb.ne
      omega
    · show ((Stm.ifs e a b).flat ++ []).length ≤ 1 + 2 * ((n + 1) * fN n)
      rw [List.append_nil, flat_kids]
      have := fa.fl
      have := fb.fl
      simp only [Stm.kids, flats_app, List.length_cons, List.length_append]
      omega
    · rw [callsN_one] at mm
      simp only [callN, Stm.kids, callsN_app, Option.toList, List.nil_append] at mm
      exact (List.mem_append.mp mm).elim (fa.ca nm) (fb.ca nm)
  | n + 1, g, .loop x k e b, h => by
    unfold StW at h
    obtain ⟨rfl, _, k1, k4, he, hb⟩ := h
    have fb := fl_of (st_fl n _) hb
    refine ⟨?_, ?_, fun nm mm => ?_⟩
    · show max (1 + nests b) 0 ≤ n + 1
      have := fb.ne
      omega
    · show ((Stm.loop _ k e b).flat ++ []).length ≤ 1 + 2 * ((n + 1) * fN n)
      rw [List.append_nil, flat_kids]
      have := fb.fl
      simp only [Stm.kids, List.length_cons]
      omega
    · rw [callsN_one] at mm
      simp only [callN, Stm.kids, Option.toList, List.nil_append] at mm
      exact fb.ca nm mm
theorem bd_fl {g : Env} {n : Nat} {b : List Stm} (h : BodyW g n b) : FlatG g n ((n + 1) * fN n) b := fl_of (st_fl n g) h
/-- the calls that may be made of objects numbered below n -/
def CsG (n : Nat) (cs : List (Str × Str × Nat)) : Prop := ∀ q ∈ cs, ∃ j k : Nat, j < n ∧ k < 2 ∧ q.1 = oname "o" j ∧ q.2.1 = oname "do" k ∧ q.2.2 ≤ 2
theorem obsG_wf {obs : List Ob} {cs : List (Str × Str × Nat)} (h : ObsG obs cs) : CsG obs.length cs ∧ ∀ (i : Nat) ob, obs[i]? = some ob → ∃ cs', CsG (obs.length - 1 - i) cs' ∧ ObG cs' (obs.length - 1 - i) ob := by
  induction h with
  | nil => exact ⟨fun q m => (by cases m), fun i ob e => (by simp at e)⟩
  | @cons obs cs ob h g ih =>
    have cl := (obsG_calls (.cons h g)).2
    refine ⟨fun q m => ?_, fun i ob' e => ?_⟩
    · have q2 := cl q m
      rcases List.mem_append.mp m with m | m
      · obtain ⟨j, k, a, b, c⟩ := ih.1 q m
        exact ⟨j, k, by rw [List.length_cons]; omega, b, c⟩
      · obtain ⟨o, mo, rfl⟩ := List.mem_map.mp m
        obtain ⟨z, _, _, l2, _, og⟩ := g.ex
        obtain ⟨k, hk⟩ := List.getElem?_of_mem mo
        have hl := (List.getElem?_eq_some_iff.mp hk).1
        exact ⟨obs.length, k, by rw [List.length_cons]; omega, by omega, rfl, (og k o hk).name, q2⟩
    · cases i with
      | zero =>
        simp at e
        subst e
        exact ⟨cs, ih.1, g⟩
      | succ i =>
        have := ih.2 i ob' (by simpa using e)
        have ez : (ob :: obs).length - 1 - (i + 1) = obs.length - 1 - i := by rw [List.length_cons]; omega
        rw [ez]
        exact this
theorem oname_inj : ∀ i, i < 4 → ∀ j, j < 4 → oname "o" i = oname "o" j → i = j := by decide +kernel
theorem oname_o : ∀ i, i < 4 → Ok 5 (oname "o" i) := by decide +kernel
theorem oname_do : ∀ i, i < 2 → Ok 5 (oname "do" i) := by decide +kernel
theorem oname_p : ∀ i, i < 4 → Ok 5 (oname "p" i) := by decide +kernel
theorem oname_t : ∀ i, i < 4 → Ok 5 (oname "t" i) := by decide +kernel
section
variable {mt : Nat} {ports : List (Str × Str)} {cs : List (Str × Str × Nat)} {p : Pg}
theorem ProgG.nameAt (h : ProgG mt 3 ports cs p) {i : Nat} (hi : i < p.obs.length) : p.names[i]? = some (oname "o" (p.obs.length - 1 - i)) := by
  obtain ⟨ob, hob⟩ : ∃ ob, p.obs[i]? = some ob := ⟨_, List.getElem?_eq_getElem hi⟩
  obtain ⟨cs', _, g⟩ := (obsG_wf h.obs).2 i ob hob
  unfold Pg.names
  rw [List.getElem?_map, hob, ← g.name]; rfl
theorem ProgG.nodup (h : ProgG mt 3 ports cs p) : p.names.Nodup := by
  have hl : p.names.length = p.obs.length := List.length_map _
  have lo := h.lo
  rw [List.nodup_iff_pairwise_ne]
  refine List.pairwise_iff_getElem.mpr fun i j hi hj hij z => ?_
  have e1 := h.nameAt (i := i) (by omega)
  have e2 := h.nameAt (i := j) (by omega)
  rw [List.getElem?_eq_getElem hi] at e1
  rw [List.getElem?_eq_getElem hj] at e2
  have := oname_inj _ (by omega) _ (by omega) (Option.some.inj (e1.symm.trans ((congrArg some z).trans e2)))
  omega
theorem ProgG.find (h : ProgG mt 3 ports cs p) {j : Nat} (hj : j < p.obs.length) : oname "o" j ∈ p.names ∧ (findN p.names (oname "o" j)).toNat = p.obs.length - 1 - j := by
  have e := h.nameAt (i := p.obs.length - 1 - j) (by omega)
  rw [show p.obs.length - 1 - (p.obs.length - 1 - j) = j from by omega] at e
  exact ⟨List.mem_of_getElem? e, by rw [findN_nd h.nodup e]; rfl⟩
theorem ProgG.ops (h : ProgG mt 3 ports cs p) {i : Nat} {ob : Ob} (hob : p.obs[i]? = some ob) : ob.ops.length ≤ 2 ∧ ∀ o ∈ ob.ops, nests o.body ≤ 1 ∧ (flats o.body).length ≤ 6 ∧ ∀ nm ∈ callsN o.body, ∃ j, j < p.obs.length - 1 - i ∧ nm = oname "o" j := by
  obtain ⟨cs', cg, g⟩ := (obsG_wf h.obs).2 i ob hob
  obtain ⟨z, _, _, l2, _, og⟩ := g.ex
  refine ⟨l2, fun o mo => ?_⟩
  obtain ⟨k, hk⟩ := List.getElem?_of_mem mo
  obtain ⟨np, zu, r, _, _, _, _, bw, _⟩ := (og k o hk).ex
  have f := bd_fl bw
  refine ⟨f.ne, f.fl, fun nm m => ?_⟩
  obtain ⟨q, mq, rfl⟩ := List.mem_map.mp (f.ca nm m)
  obtain ⟨j, _, a, _, b, _⟩ := cg q mq
  exact ⟨j, a, b⟩
theorem ProgG.pgw (h : ProgG 3 3 ports cs p) : PgW p := by
  have lo := h.lo
  have tl := h.tl
  have il := h.il
  have cg := (obsG_wf h.obs).1
  have memN : ∀ {j n : Nat}, j < n → n ≤ p.obs.length → oname "o" j ∈ p.names := fun a b => (h.find (by omega)).1
  have tb : ∀ t ∈ p.tasks, nests t.body ≤ 2 ∧ (flats t.body).length ≤ 39 ∧ ∀ nm ∈ callsN t.body, nm ∈ p.names := fun t mt => by
    obtain ⟨k, hk⟩ := List.getElem?_of_mem mt
    obtain ⟨z, wi, ev, _, _, _, _, _, _, _, _, bw⟩ := (h.tg k t hk).ex
    have f := bd_fl bw
    refine ⟨f.ne, f.fl, fun nm m => ?_⟩
    obtain ⟨q, mq, rfl⟩ := List.mem_map.mp (f.ca nm m)
    obtain ⟨j, _, a, _, b, _⟩ := cg q mq
    rw [b]; exact memN a (Nat.le_refl _)
  have opsAt : ∀ o ∈ p.obs, ∃ i, p.obs[i]? = some o ∧ i < p.obs.length := fun o m => by
    obtain ⟨i, hi⟩ := List.getElem?_of_mem m
    exact ⟨i, hi, (List.getElem?_eq_some_iff.mp hi).1⟩
  have eE : ∀ {k : Nat} {ob : Ob}, p.obs[k]? = some ob → p.E k = ob.calls.map fun nm => (findN p.names nm).toNat := fun hob => by unfold Pg.E; rw [hob]; rfl
  refine ⟨⟨by omega, by omega, by omega⟩, fun o m => ?_, fun k j m => ?_, fun k => ?_, fun t m => ?_, fun t m => ?_⟩
  · obtain ⟨i, hi, li⟩ := opsAt o m
    obtain ⟨l2, f⟩ := h.ops hi
    refine ⟨by omega, fun x mx => ?_⟩
    obtain ⟨f1, f2, f3⟩ := f x mx
    refine ⟨by omega, by omega, fun nm mm => ?_⟩
    obtain ⟨j, a, rfl⟩ := f3 nm mm
    exact memN a (by omega)
  · cases hob : p.obs[k]? with
    | none => unfold Pg.E at m; rw [hob] at m; cases m
    | some ob =>
      rw [eE hob] at m
      obtain ⟨nm, mm, rfl⟩ := List.mem_map.mp m
      unfold Ob.calls at mm
      obtain ⟨x, mx, mm⟩ := List.mem_flatMap.mp mm
      obtain ⟨j, a, rfl⟩ := ((h.ops hob).2 x mx).2.2 nm mm
      have hk := (List.getElem?_eq_some_iff.mp hob).1
      rw [(h.find (j := j) (by omega)).2]
      omega
  · cases hob : p.obs[k]? with
    | none => unfold Pg.E; rw [hob]; exact Nat.zero_le _
    | some ob =>
      rw [eE hob, List.length_map]
      obtain ⟨l2, f⟩ := h.ops hob
      have fl : ∀ l : List Op, (∀ x ∈ l, (flats x.body).length ≤ 6) → (l.flatMap fun x => callsN x.body).length ≤ l.length * 6 := fun l => by
        induction l with
        | nil => intro _; exact Nat.zero_le _
        | cons a r ih =>
          intro q
          rw [List.flatMap_cons, List.length_append, List.length_cons, Nat.succ_mul]
          have h1 := ih fun x m => q x (List.mem_cons_of_mem _ m)
          have h2 := q a (List.mem_cons_self ..)
          have h3 := callsN_len a.body
          omega
      have := fl ob.ops fun x m => (f x m).2.1
      unfold Ob.calls
      omega
  · obtain ⟨f1, f2, f3⟩ := tb t m
    have := callsN_len t.body
    exact ⟨⟨by omega, by omega, f3⟩, by omega⟩
  · obtain ⟨op, many, wi, ev, args, mc, _⟩ := (h.ig t m).ex
    obtain ⟨j, _, a, _, b, _⟩ := cg _ mc
    rw [show t.obj = oname "o" j from b]
    exact memN a (Nat.le_refl _)
end

end Mine

set_option Elab.async false
set_option linter.all false
set_option maxRecDepth 100000
set_option maxHeartbeats 1000000

--@@rec _law_expr _law_body _law_statement _copied _copied_statement _law_names

--@@guards
namespace Mine
open PySem PySem.Spec PyProof.Rows L2

/-! ### how long the law's programs are when shown -/
theorem cellsD_rp {cs : List (Str × Int)} {k : Nat} (h : ∀ q ∈ cs, Ok 5 q.1 ∧ 0 ≤ q.2 ∧ q.2 < 4294967296) (l : cs.length ≤ k) : Rp 2 (k * 113 + 3) (cellsD cs) := by
  refine (RpL.upto (m := 1) (n := 111) (k := k) (fun d m => ?_) (by rw [List.length_map]; exact l)).lst
  obtain ⟨q, mq, rfl⟩ := List.mem_map.mp m
  obtain ⟨h1, h2, h3⟩ := h q mq
  exact (RpL.cons (Rp.s5 (m := 0) (n := 52) h1 (by decide)) (.cons (Rp.nat h2 h3) .nil)).tup.mono (by decide) (by decide)
theorem opCells_n {np : Nat} {z z2 : Int} : ∀ q ∈ opCells np [("f", 0), ("g", z2)] z, Ok 5 q.1 := by
  intro q m
  unfold opCells at m
  rcases List.mem_append.mp m with m | m
  · rcases List.mem_append.mp m with m | m
    · obtain ⟨s, ms, rfl⟩ := List.mem_map.mp m
      have ms := List.mem_of_mem_take ms
      have : ∀ s ∈ pnames, Ok 5 s := by decide +kernel
      exact this s ms
    · simp only [List.mem_cons, List.mem_nil_iff, or_false] at m
      rcases m with rfl | rfl
      · show Ok 5 "f"; decide +kernel
      · show Ok 5 "g"; decide +kernel
  · simp only [List.mem_cons, List.mem_nil_iff, or_false] at m
    rcases m with rfl | rfl
    · show Ok 5 "t"; decide +kernel
    · show Ok 5 "u"; decide +kernel
theorem csG_ok {n : Nat} {cs : List (Str × Str × Nat)} (h : CsG n cs) (hn : n ≤ 4) : ∀ q ∈ cs, Ok 5 q.1 ∧ Ok 5 q.2.1 ∧ q.2.2 ≤ 2 := fun q m => by
  obtain ⟨j, k, a, b, c, d, e⟩ := h q m
  rw [c, d]
  exact ⟨oname_o j (by omega), oname_do k b, e⟩
theorem bdN1 : bdN 1 = 76263 := by decide
theorem bdN2 : bdN 2 = 1143993 := by decide
theorem op_rp {n k : Nat} {cs : List (Str × Str × Nat)} {z2 : Int} {o : Op} (g : OpG cs [("f", 0), ("g", z2)] k o) (hk : k < 2) (hc : CsG n cs) (hn : n ≤ 4) : Rp 20 80000 o.d := by
  obtain ⟨np, z, r, np2, hz, ep, el, bw, er, hr⟩ := g.ex
  have z0 : 0 ≤ z ∧ z < 4294967296 := by rcases hz with rfl | rfl <;> decide
  have en : EnvN ⟨opCells np [("f", 0), ("g", z2)] z, [], [], cs, 1⟩ := ⟨opCells_n, fun _ m => (by cases m), fun _ m => (by cases m), csG_ok hc hn⟩
  have en2 : EnvN ⟨opCells np [("f", 0), ("g", z2)] z, [], [], [], 0⟩ := ⟨opCells_n, fun _ m => (by cases m), fun _ m => (by cases m), fun _ m => (by cases m)⟩
  have b := bd_of (st_rp 1 _ en (by decide)) bw
  rw [bdN1] at b
  have h1 : Rp 19 92 (.str "operation") := (Rp.str (k := 9) (by decide +kernel)).mono (by decide) (by decide)
  have h2 : Rp 19 52 (.str o.name) := by rw [g.name]; exact Rp.s5 (oname_do k hk) (by decide)
  have h3 : Rp 19 111 o.pars := by
    rw [ep]
    refine (RpL.upto (m := 0) (n := 52) (k := 2) (fun d m => ?_) ?_).lst.mono (by decide) (by decide)
    · obtain ⟨s, ms, rfl⟩ := List.mem_map.mp m
      have ms := List.mem_of_mem_take ms
      have : ∀ s ∈ pnames, Ok 5 s := by decide +kernel
      exact Rp.s5 (this s ms) (by decide)
    · rw [List.length_map, List.length_take]
      exact Nat.min_le_right _ _
  have h4 : Rp 19 229 o.locs := by
    rw [el]
    refine (cellsD_rp (k := 2) (fun q m => ?_) (by show 2 ≤ 2; decide)).mono (by decide) (by decide)
    simp only [List.mem_cons, List.mem_nil_iff, or_false] at m
    rcases m with rfl | rfl
    · exact ⟨by show Ok 5 "t"; decide +kernel, by show (0 : Int) ≤ 0; decide, by show (0 : Int) < _; decide⟩
    · exact ⟨by show Ok 5 "u"; decide +kernel, z0.1, z0.2⟩
  have h6 : Rp 19 504 o.res := by
    rw [er]
    refine opt_rp (fun d e => ?_) (by decide)
    cases r with
    | none => cases e
    | some x =>
      cases e
      exact (ex_rp en2 x 2 (hr x rfl).1 (hr x rfl).2).mono (by decide) (Nat.le_refl _)
  exact (RpL.cons h1 (.cons h2 (.cons h3 (.cons h4 (.cons (b.mono (by decide) (Nat.le_refl _)) (.cons h6 .nil)))))).tup.mono (by decide) (by decide)
theorem ob_rp {n : Nat} {cs : List (Str × Str × Nat)} {ob : Ob} (g : ObG cs n ob) (hc : CsG n cs) (hn : n < 4) : Rp 22 161000 ob.d := by
  obtain ⟨z, hz, ef, l2, _, og⟩ := g.ex
  have z0 : 0 ≤ z ∧ z < 4294967296 := by rcases hz with rfl | rfl | rfl <;> decide
  have h1 : Rp 21 62 (.str "object") := (Rp.str (k := 6) (by decide +kernel)).mono (by decide) (by decide)
  have h2 : Rp 21 52 (.str ob.name) := by rw [g.name]; exact Rp.s5 (oname_o n hn) (by decide)
  have h3 : Rp 21 229 ob.fields := by
    rw [ef]
    refine (cellsD_rp (k := 2) (fun q m => ?_) (by show 2 ≤ 2; decide)).mono (by decide) (by decide)
    simp only [List.mem_cons, List.mem_nil_iff, or_false] at m
    rcases m with rfl | rfl
    · exact ⟨by show Ok 5 "f"; decide +kernel, by show (0 : Int) ≤ 0; decide, by show (0 : Int) < _; decide⟩
    · exact ⟨by show Ok 5 "g"; decide +kernel, z0.1, z0.2⟩
  have h4 : Rp 21 160007 (.list (ob.ops.map Op.d)) := (RpL.upto (m := 20) (n := 80000) (k := 2) (fun d m => by
    obtain ⟨o, mo, rfl⟩ := List.mem_map.mp m
    obtain ⟨k, hk⟩ := List.getElem?_of_mem mo
    have hl := (List.getElem?_eq_some_iff.mp hk).1
    exact op_rp (og k o hk) (by omega) hc (by omega)) (by rw [List.length_map]; exact l2)).lst.mono (by decide) (by decide)
  exact (RpL.cons h1 (.cons h2 (.cons h3 (.cons h4 .nil)))).tup.mono (by decide) (by decide)
section
variable {ports : List (Str × Str)} {cs : List (Str × Str × Nat)} {p : Pg}
theorem task_rp {k : Nat} {t : Task} (g : TaskG ports cs k t) (hk : k < 4) (hc : CsG 4 cs) (hp : ∀ q ∈ ports, Ok 5 q.2) : Rp 20 1145000 t.d := by
  obtain ⟨z, wi, ev, hz, w1, w2, e1, e2, ew, ee, el, bw⟩ := g.ex
  have z0 : 0 ≤ z ∧ z < 4294967296 := by rcases hz with rfl | rfl | rfl <;> decide
  have cn : ∀ q ∈ ([("a", 0), ("b", z)] : List (Str × Int)), Ok 5 q.1 ∧ 0 ≤ q.2 ∧ q.2 < 4294967296 := fun q m => by
    simp only [List.mem_cons, List.mem_nil_iff, or_false] at m
    rcases m with rfl | rfl
    · exact ⟨by show Ok 5 "a"; decide +kernel, by show (0 : Int) ≤ 0; decide, by show (0 : Int) < _; decide⟩
    · exact ⟨by show Ok 5 "b"; decide +kernel, z0.1, z0.2⟩
  have b := bd_of (st_rp 2 _ ⟨fun q m => (cn q m).1, fun _ m => (by cases m), hp, csG_ok hc (by decide)⟩ (by decide)) bw
  rw [bdN2] at b
  have h1 : Rp 19 52 (.str "task") := Rp.s5 (by decide +kernel) (by decide)
  have h2 : Rp 19 52 (.str t.name) := by rw [g.name]; exact Rp.s5 (oname_t k hk) (by decide)
  have h3 : Rp 19 52 t.every := by rw [ee]; exact (Rp.nat (by omega) (by omega)).mono (by decide) (Nat.le_refl _)
  have h4 : Rp 19 52 (.int t.within) := by rw [ew]; exact (Rp.nat (by omega) (by omega)).mono (by decide) (Nat.le_refl _)
  have h5 : Rp 19 229 t.locs := by rw [el]; exact (cellsD_rp (k := 2) cn (by show 2 ≤ 2; decide)).mono (by decide) (by decide)
  exact (RpL.cons h1 (.cons h2 (.cons h3 (.cons h4 (.cons h5 (.cons (b.mono (by decide) (Nat.le_refl _)) .nil)))))).tup.mono (by decide) (by decide)
theorem intr_rp {t : Intr} (g : IntrG cs t) (hc : CsG 4 cs) : Rp 20 480 t.d := by
  obtain ⟨op, many, wi, ev, args, mc, w1, w2, e1, e2, ew, ee, eo, ea, la, wa⟩ := g.ex
  obtain ⟨k1, k2, k3⟩ := csG_ok hc (by decide) _ mc
  have h1 : Rp 19 92 (.str "interrupt") := (Rp.str (k := 9) (by decide +kernel)).mono (by decide) (by decide)
  have h2 : Rp 19 52 (.str t.name) := by rw [g.name]; exact Rp.s5 (by decide +kernel) (by decide)
  have h3 : Rp 19 52 t.every := by rw [ee]; exact (Rp.nat (by omega) (by omega)).mono (by decide) (Nat.le_refl _)
  have h4 : Rp 19 52 t.within := by rw [ew]; exact (Rp.nat (by omega) (by omega)).mono (by decide) (Nat.le_refl _)
  have h5 : Rp 19 52 (.str t.obj) := Rp.s5 k1 (by decide)
  have h6 : Rp 19 52 t.op := by rw [eo]; exact Rp.s5 k2 (by decide)
  have h7 : Rp 19 111 t.args := by
    rw [ea]
    refine (RpL.upto (m := 0) (n := 52) (k := 2) (fun d m => ?_) (by rw [List.length_map, la]; exact k3)).lst.mono (by decide) (by decide)
    obtain ⟨a, ma, rfl⟩ := List.mem_map.mp m
    exact Rp.nat (wa a ma).1 (wa a ma).2
  exact (RpL.cons h1 (.cons h2 (.cons h3 (.cons h4 (.cons h5 (.cons h6 (.cons h7 .nil))))))).tup.mono (by decide) (by decide)
theorem ProgG.rp (h : ProgG 3 3 ports cs p) : Rp 30 4000000 p.d := by
  have lo := h.lo
  have tl := h.tl
  have cg : CsG 4 cs := fun q m => by
    obtain ⟨j, k, a, b⟩ := (obsG_wf h.obs).1 q m
    exact ⟨j, k, by omega, b⟩
  have hp : ∀ q ∈ ports, (q.1 = ("in" : Str) ∨ q.1 = ("out" : Str)) ∧ Ok 5 q.2 := fun q m => by
    obtain ⟨i, hi⟩ := List.getElem?_of_mem m
    have hl := (List.getElem?_eq_some_iff.mp hi).1
    have pl := h.pl
    obtain ⟨a, b⟩ := h.pn i q hi
    exact ⟨a, by rw [b]; exact oname_p i (by omega)⟩
  have h1 : Rp 29 62 p.kind := by rw [h.kind]; exact (Rp.str (k := 6) (by decide +kernel)).mono (by decide) (by decide)
  have h2 : Rp 29 52 p.name := by rw [h.name]; exact Rp.s5 (by decide +kernel) (by decide)
  have h3 : Rp 29 342 p.ports := by
    rw [h.pd]
    refine (RpL.upto (m := 1) (n := 111) (k := 3) (fun d m => ?_) (by rw [List.length_map]; exact h.pl)).lst.mono (by decide) (by decide)
    obtain ⟨q, mq, rfl⟩ := List.mem_map.mp m
    obtain ⟨a, b⟩ := hp q mq
    refine (RpL.cons (Rp.s5 (m := 0) (n := 52) ?_ (by decide)) (.cons (Rp.s5 (n := 52) b (by decide)) .nil)).tup.mono (by decide) (by decide)
    rcases a with a | a <;> rw [a] <;> decide +kernel
  have h4 : Rp 29 483009 (.list (p.obs.map Ob.d)) := (RpL.upto (m := 22) (n := 161000) (k := 3) (fun d m => by
    obtain ⟨o, mo, rfl⟩ := List.mem_map.mp m
    obtain ⟨i, hi⟩ := List.getElem?_of_mem mo
    obtain ⟨cs', c1, g⟩ := (obsG_wf h.obs).2 i o hi
    exact ob_rp g c1 (by omega)) (by rw [List.length_map]; exact lo)).lst.mono (by decide) (by decide)
  have h5 : Rp 29 3435009 (.list (p.tasks.map Task.d)) := (RpL.upto (m := 20) (n := 1145000) (k := 3) (fun d m => by
    obtain ⟨o, mo, rfl⟩ := List.mem_map.mp m
    obtain ⟨i, hi⟩ := List.getElem?_of_mem mo
    have hl := (List.getElem?_eq_some_iff.mp hi).1
    exact task_rp (h.tg i o hi) (by omega) cg fun q m => (hp q m).2) (by rw [List.length_map]; exact tl)).lst.mono (by decide) (by decide)
  have h6 : Rp 29 485 (.list (p.irs.map Intr.d)) := (RpL.upto (m := 20) (n := 480) (k := 1) (fun d m => by
    obtain ⟨o, mo, rfl⟩ := List.mem_map.mp m
    exact intr_rp (h.ig o mo) cg) (by rw [List.length_map]; exact h.il)).lst.mono (by decide) (by decide)
  exact (RpL.cons h1 (.cons h2 (.cons h3 (.cons h4 (.cons h5 (.cons h6 .nil)))))).tup.mono (by decide) (by decide)
end

end Mine

set_option Elab.async false
set_option linter.all false
set_option maxRecDepth 100000
set_option maxHeartbeats 1000000

--@@rec _law_expr _law_body _law_statement _copied _copied_statement _law_names

--@@guards
namespace Mine
open PySem PySem.Spec PyProof.Rows L2

/-! ### what == and index compare: data under an object -/
def DOk (n : Nat) (d : PyData) : Prop := d.canLay0 = true ∧ d.depth ≤ n
theorem DOk.shaped {n : Nat} {d : PyData} (h : DOk n d) (hn : n ≤ 64) : SeqAt.shaped d = true := by
  unfold SeqAt.shaped
  rw [h.1, decide_eq_true (Nat.le_trans h.2 hn)]
  rfl
theorem DOk.mono {n m : Nat} {d : PyData} (h : DOk n d) (hn : n ≤ m) : DOk m d := ⟨h.1, Nat.le_trans h.2 hn⟩
theorem dok_int {n : Nat} {i : Int} : DOk n (.int i) := ⟨by simp only [PyData.canLay0], by simp only [PyData.depth]; exact Nat.zero_le _⟩
theorem dok_non {n : Nat} : DOk n .none := ⟨by simp only [PyData.canLay0], by simp only [PyData.depth]; exact Nat.zero_le _⟩
theorem dok_bl {n : Nat} {b : Bool} : DOk n (.bool b) := ⟨by simp only [PyData.canLay0], by simp only [PyData.depth]; exact Nat.zero_le _⟩
theorem dok_str {n : Nat} {x : Str} (h : PyData.strOk x = true) : DOk n (.str x) := ⟨by simp only [PyData.canLay0]; exact h, by simp only [PyData.depth]; exact Nat.zero_le _⟩
theorem dok_all {n : Nat} : ∀ {ds : List PyData}, (∀ d ∈ ds, DOk n d) → PyData.canLayAll0 ds = true ∧ PyData.depthAll ds ≤ n
  | [], _ => ⟨by simp only [PyData.canLayAll0], by simp only [PyData.depthAll]; exact Nat.zero_le _⟩
  | d :: r, h => by
    obtain ⟨a, b⟩ := dok_all (ds := r) fun x m => h x (List.mem_cons_of_mem _ m)
    obtain ⟨c, e⟩ := h d List.mem_cons_self
    exact ⟨by simp only [PyData.canLayAll0, c, a] <;> rfl, by simp only [PyData.depthAll]; omega⟩
theorem dok_list {n : Nat} {ds : List PyData} (h : ∀ d ∈ ds, DOk n d) : DOk (n + 1) (.list ds) := by
  obtain ⟨a, b⟩ := dok_all h
  exact ⟨by simp only [PyData.canLay0]; exact a, by simp only [PyData.depth]; omega⟩
theorem dok_tup {n : Nat} {ds : List PyData} (h : ∀ d ∈ ds, DOk n d) : DOk (n + 1) (.tuple ds) := by
  obtain ⟨a, b⟩ := dok_all h
  exact ⟨by simp only [PyData.canLay0]; exact a, by simp only [PyData.depth]; omega⟩
theorem dpAll_map {K : PySem.W.Frag} {H : Hp} (f : V → PyData) : ∀ {zs : List V}, (∀ v ∈ zs, Dp K H v (f v)) → DpAll K H zs (zs.map f)
  | [], _ => .nil
  | z :: r, h => .cons (h z List.mem_cons_self) (dpAll_map f fun v m => h v (List.mem_cons_of_mem _ m))
theorem dpAll_ints {K : PySem.W.Frag} {H : Hp} : ∀ {ns : List Int}, DpAll K H (ns.map V.int) (ns.map PyData.int)
  | [] => .nil
  | n :: r => .cons (.int n) dpAll_ints
theorem dp_ints {K : PySem.W.Frag} {H : Hp} {a : Addr} {ns : List Int} (h : SqL K H a (ns.map V.int)) : Dp K H (.ref a) (.list (ns.map PyData.int)) := .lst h dpAll_ints
theorem dp_intsT {K : PySem.W.Frag} {H : Hp} {a : Addr} {ns : List Int} (h : SqT K H a (ns.map V.int)) : Dp K H (.ref a) (.tuple (ns.map PyData.int)) := .tup h dpAll_ints
theorem ints_dok (n : Nat) (ns : List Int) : DOk (n + 1) (.list (ns.map PyData.int)) := dok_list fun d m => by
  obtain ⟨i, _, rfl⟩ := List.mem_map.mp m
  exact dok_int
theorem ints_shaped (ns : List Int) : SeqAt.shaped (.list (ns.map PyData.int)) = true := (ints_dok 0 ns).shaped (by decide)
theorem eqvAll_ints : ∀ ns ms : List Int, PyData.eqvAll (ns.map PyData.int) (ms.map PyData.int) = decide (ns = ms)
  | [], [] => by simp [PyData.eqvAll]
  | [], b :: s => by simp [PyData.eqvAll]
  | a :: r, [] => by simp [PyData.eqvAll]
  | a :: r, b :: s => by
    rw [List.map_cons, List.map_cons, PyData.eqvAll, eqvAll_ints r s, PyData.eqv]
    by_cases h : a = b <;> by_cases h2 : r = s <;> simp [h, h2]
theorem eqv_ints (ns ms : List Int) : PyData.eqv (.list (ns.map PyData.int)) (.list (ms.map PyData.int)) = decide (ns = ms) := by
  rw [PyData.eqv, eqvAll_ints]
theorem eqv_intsT (ns ms : List Int) : PyData.eqv (.tuple (ns.map PyData.int)) (.tuple (ms.map PyData.int)) = decide (ns = ms) := by
  rw [PyData.eqv, eqvAll_ints]

/-! ### rows with names -/
theorem named_map {K : PySem.W.Frag} {H : Hp} {α : Type} (f : α → PyData) (nm : α → Str) (hf : ∀ a, ∃ h r, f a = .tuple (h :: .str (nm a) :: r)) : ∀ {os : List α} {xs : List V}, DpAll K H xs (os.map f) → NamedR K H xs (os.map nm) := by
  intro os xs ha
  have lx : xs.length = os.length := by rw [dps_len ha, List.length_map]
  refine ⟨by rw [List.length_map, lx], fun i v hv => ?_⟩
  obtain ⟨d, hd, dd⟩ := dp_at' ha hv
  rw [List.getElem?_map] at hd
  cases e : os[i]? with
  | none => rw [e] at hd; cases hd
  | some o =>
    rw [e] at hd; cases hd
    obtain ⟨h, r, ef⟩ := hf o
    rw [ef] at dd
    obtain ⟨t, fs, rfl, hf, af⟩ := dpT dd
    obtain ⟨v0, fs, rfl, d0, af⟩ := dp1 af
    obtain ⟨v1, fs, rfl, d1, af⟩ := dp1 af
    exact ⟨t, _, nm o, rfl, hf, by rw [dpS d1]; rfl, by rw [List.getElem?_map, e]; rfl⟩
theorem NamedR.same {K : PySem.W.Frag} {H H' : Hp} {xs : List V} {ns : List Str} (h : NamedR K H xs ns) (s : Same H H') : NamedR K H' xs ns := ⟨h.1, fun i v e => by
  obtain ⟨t, fs, x, a, b, c⟩ := h.2 i v e
  exact ⟨t, fs, x, a, s.seqT b, c⟩⟩
/-- a list of rows, each with a name of its own -/
def RowsOk (K : PySem.W.Frag) (H : Hp) (L : Addr) : Prop := ∃ xs ns, SqL K H L xs ∧ NamedR K H xs ns ∧ ns.Nodup ∧ xs.length ≤ 4 ∧ ("nobody" : Str) ∉ ns
theorem RowsOk.same {K : PySem.W.Frag} {H H' : Hp} {L : Addr} (h : RowsOk K H L) (s : Same H H') : RowsOk K H' L := by
  obtain ⟨xs, ns, a, b, c⟩ := h
  exact ⟨xs, ns, s.seq a, b.same s, c⟩
/-- names that count up -/
theorem ups_ok (w : Str) (inj : ∀ i, i < 4 → ∀ j, j < 4 → oname w i = oname w j → i = j) (nob : ∀ i, i < 4 → oname w i ≠ "nobody") {ns : List Str} (g : Nat → Nat) (hg : ∀ i j, i < ns.length → j < ns.length → g i = g j → i = j) (h4 : ∀ i, i < ns.length → g i < 4) (h : ∀ (i : Nat) s, ns[i]? = some s → s = oname w (g i)) : ns.Nodup ∧ ("nobody" : Str) ∉ ns := by
  refine ⟨?_, fun m => ?_⟩
  · rw [List.nodup_iff_pairwise_ne]
    refine List.pairwise_iff_getElem.mpr fun i j hi hj hij z => ?_
    have e1 := h i _ (List.getElem?_eq_getElem hi)
    have e2 := h j _ (List.getElem?_eq_getElem hj)
    have := hg i j hi hj (inj _ (h4 i hi) _ (h4 j hj) (by rw [← e1, ← e2]; exact z))
    omega
  · obtain ⟨i, hi⟩ := List.getElem?_of_mem m
    have hl := (List.getElem?_eq_some_iff.mp hi).1
    exact nob _ (h4 i hl) (h i _ hi).symm
theorem oname_pi : ∀ i, i < 4 → ∀ j, j < 4 → oname "p" i = oname "p" j → i = j := by decide +kernel
theorem oname_ti : ∀ i, i < 4 → ∀ j, j < 4 → oname "t" i = oname "t" j → i = j := by decide +kernel
theorem oname_pn : ∀ i, i < 4 → oname "p" i ≠ "nobody" := by decide +kernel
theorem oname_on : ∀ i, i < 4 → oname "o" i ≠ "nobody" := by decide +kernel
theorem oname_tn : ∀ i, i < 4 → oname "t" i ≠ "nobody" := by decide +kernel
section
variable {ports : List (Str × Str)} {cs : List (Str × Str × Nat)} {p : Pg} {K : PySem.W.Frag} {H : Hp}
theorem ProgG.rows (h : ProgG 3 3 ports cs p) {v : V} (d : Dp K H v p.d) : ∃ t v0 v1 Po O Tt I os ts is, v = .ref t ∧ SqT K H t [v0, v1, .ref Po, .ref O, .ref Tt, .ref I] ∧ PgAt K H t O Tt I os ts is p ∧ RowsOk K H Po ∧ RowsOk K H O ∧ RowsOk K H Tt ∧ RowsOk K H I := by
  have lo := h.lo
  have tl := h.tl
  have il := h.il
  have pl := h.pl
  obtain ⟨t, xs, rfl, hx, ha⟩ := dpT d
  obtain ⟨v0, x0, rfl, d0, ha⟩ := dp1 ha
  obtain ⟨v1, x0, rfl, d1, ha⟩ := dp1 ha
  obtain ⟨v2, x0, rfl, d2, ha⟩ := dp1 ha
  obtain ⟨v3, x0, rfl, d3, ha⟩ := dp1 ha
  obtain ⟨v4, x0, rfl, d4, ha⟩ := dp1 ha
  obtain ⟨v5, x0, rfl, d5, ha⟩ := dp1 ha
  cases dp0 ha
  rw [h.pd] at d2
  obtain ⟨Po, ps, rfl, h2, a2⟩ := dpL d2
  obtain ⟨O, os, rfl, h3, a3⟩ := dpL d3
  obtain ⟨Tt, ts, rfl, h4, a4⟩ := dpL d4
  obtain ⟨I, is, rfl, h5, a5⟩ := dpL d5
  have l2 : ps.length = ports.length := by rw [dps_len a2, List.length_map]
  have l3 : os.length = p.obs.length := by rw [dps_len a3, List.length_map]
  have l4 : ts.length = p.tasks.length := by rw [dps_len a4, List.length_map]
  have l5 : is.length = p.irs.length := by rw [dps_len a5, List.length_map]
  refine ⟨t, v0, v1, Po, O, Tt, I, os, ts, is, rfl, hx, ⟨⟨v0, v1, _, hx⟩, h3, a3, h4, a4, h5, a5⟩, ⟨ps, ports.map (·.2), h2, named_map portD (·.2) (fun a => ⟨_, _, rfl⟩) a2, ?_⟩, ⟨os, p.obs.map Ob.name, h3, named_map Ob.d Ob.name (fun a => ⟨_, _, rfl⟩) a3, ?_⟩, ⟨ts, p.tasks.map Task.name, h4, named_map Task.d Task.name (fun a => ⟨_, _, rfl⟩) a4, ?_⟩, ⟨is, p.irs.map Intr.name, h5, named_map Intr.d Intr.name (fun a => ⟨_, _, rfl⟩) a5, ?_⟩⟩
  · have u := ups_ok "p" oname_pi oname_pn (ns := ports.map (·.2)) id (fun i j _ _ e => e) (fun i hi => by rw [List.length_map] at hi; show i < 4; omega) fun i s e => by
      rw [List.getElem?_map] at e
      cases z : ports[i]? with
      | none => rw [z] at e; cases e
      | some q => rw [z] at e; cases e; exact (h.pn i q z).2
    exact ⟨u.1, by omega, u.2⟩
  · have u := ups_ok "o" oname_inj oname_on (ns := p.obs.map Ob.name) (fun i => p.obs.length - 1 - i) (fun i j hi hj e => by rw [List.length_map] at hi hj; have e : p.obs.length - 1 - i = p.obs.length - 1 - j := e; omega) (fun i hi => by rw [List.length_map] at hi; show p.obs.length - 1 - i < 4; omega) fun i s e => by
      have hl := (List.getElem?_eq_some_iff.mp e).1
      rw [List.length_map] at hl
      have := h.nameAt hl
      unfold Pg.names at this
      rw [this] at e
      exact (Option.some.inj e).symm
    exact ⟨u.1, by omega, u.2⟩
  · have u := ups_ok "t" oname_ti oname_tn (ns := p.tasks.map Task.name) id (fun i j _ _ e => e) (fun i hi => by rw [List.length_map] at hi; show i < 4; omega) fun i s e => by
      rw [List.getElem?_map] at e
      cases z : p.tasks[i]? with
      | none => rw [z] at e; cases e
      | some q => rw [z] at e; cases e; exact (h.tg i q z).name
    exact ⟨u.1, by omega, u.2⟩
  · refine ⟨?_, by omega, fun m => ?_⟩
    · match e : p.irs, il with
      | [], _ => exact .nil
      | [a], _ => exact .cons (fun _ m => (by cases m)) .nil
      | a :: b :: r, il => exact absurd il (by simp)
    · obtain ⟨t, mt, e⟩ := List.mem_map.mp m
      rw [(h.ig t mt).name] at e
      exact absurd e (by decide +kernel)
end
theorem rows_ext : ∀ {a b : List Int}, a.Pairwise (· < ·) → b.Pairwise (· < ·) → (∀ x, x ∈ a ↔ x ∈ b) → a = b
  | [], [], _, _, _ => rfl
  | [], y :: s, _, _, h => absurd ((h y).mpr (List.mem_cons_self ..)) (by simp)
  | x :: r, [], _, _, h => absurd ((h x).mp (List.mem_cons_self ..)) (by simp)
  | x :: r, y :: s, ha, hb, h => by
    rw [List.pairwise_cons] at ha hb
    have e : x = y := by
      have h1 := (h x).mp (List.mem_cons_self ..)
      have h2 := (h y).mpr (List.mem_cons_self ..)
      rcases List.mem_cons.mp h1 with h1 | h1
      · exact h1
      rcases List.mem_cons.mp h2 with h2 | h2
      · exact h2.symm
      have := hb.1 x h1
      have := ha.1 y h2
      omega
    subst e
    rw [rows_ext ha.2 hb.2 fun z => ⟨fun m => ?_, fun m => ?_⟩]
    · have h1 := (h z).mp (List.mem_cons_of_mem _ m)
      rcases List.mem_cons.mp h1 with rfl | h1
      · have := ha.1 z m; omega
      · exact h1
    · have h1 := (h z).mpr (List.mem_cons_of_mem _ m)
      rcases List.mem_cons.mp h1 with rfl | h1
      · have := hb.1 z m; omega
      · exact h1

end Mine

set_option Elab.async false
set_option linter.all false
set_option maxRecDepth 100000
set_option maxHeartbeats 1000000

--@@rec _law_expr _law_body _law_statement _copied _copied_statement _law_names

--@@guards
namespace Mine
open PySem PySem.Spec PyProof.Rows L2
local macro_rules | `(tactic| walk_at "my rn") => `(tactic| (repeat (first | with_reducible refine Rd.catQI ?_ | with_reducible refine Rd.revN ?_ | with_reducible refine Rd.lzip ?_ | with_reducible refine Rd.fld ?_ | with_reducible refine Rd.sfld ?_ | with_reducible refine Rd.meth ?_ | with_reducible refine Rd.make ?_ | with_reducible refine Rd.izip ?_ | with_reducible refine Rd.tupN ?_ | with_reducible refine Rd.lstN ?_ | with_reducible refine Rd.cbListOf ?_ | with_reducible refine Rd.cbListOfR ?_ | with_reducible refine Rd.catI ?_ | with_reducible refine Rd.slN ?_ | with_reducible refine Rd.cbSrtI ?_ | with_reducible refine Rd.seq ?_ | with_reducible refine Rd.next ?_ | with_reducible refine Rd.brk ?_ | with_reducible refine Rd.cont ?_ | with_reducible refine Rd.asg ?_ | with_reducible refine Rd.ret ?_ | with_reducible refine Rd.retN ?_ | with_reducible refine Rd.drop ?_ | with_reducible refine Rd.ifs ?_ | with_reducible refine Rd.ife ?_ | with_reducible refine Rd.test ?_ | with_reducible refine Rd.tb_ ?_ | with_reducible refine Rd.bl ?_ | with_reducible refine Rd.bl2 ?_ | with_reducible refine Rd.and_ ?_ | with_reducible refine Rd.or_ ?_ | with_reducible refine Rd.not_ ?_ | with_reducible refine Rd.andV ?_ | with_reducible refine Rd.orV ?_ | with_reducible refine Rd.notV ?_ | with_reducible refine Rd.op ?_ | with_reducible refine Rd.un ?_ | with_reducible refine Rd.I0 ?_ | with_reducible refine Rd.U ?_ | with_reducible refine Rd.ip ?_ | with_reducible refine Rd.c_ ?_ | with_reducible refine Rd.nil ?_ | with_reducible refine Rd.cons ?_ | with_reducible refine Rd.call ?_ | with_reducible refine Rd.cb ?_ | with_reducible refine Rd.bm ?_ | with_reducible refine Rd.bm0 ?_ | with_reducible refine Rd.nopart ?_ | with_reducible refine Rd.part ?_ | with_reducible refine Rd.int1 ?_ | with_reducible refine Rd.ints1 ?_ | with_reducible refine Rd.ints2 ?_ | with_reducible refine Rd.gcons ?_ | with_reducible refine Rd.gnil ?_ | with_reducible refine Rd.sub ?_ | with_reducible refine Rd.isN ?_ | with_reducible refine Rd.chain ?_ | with_reducible refine Rd.rf ?_ | with_reducible refine Rd.tyS ?_ | with_reducible refine Rd.intI ?_ | with_reducible refine Rd.lc ?_ | with_reducible refine Rd.for_ ?_ | with_reducible refine Rd.ilist ?_ | with_reducible refine Rd.itup ?_ | with_reducible refine Rd.irng1 ?_ | with_reducible refine Rd.irng2 ?_ | with_reducible refine Rd.ienum ?_ | with_reducible refine Rd.istr ?_ | with_reducible refine Rd.refA ?_ | with_reducible refine Rd.strA ?_ | with_reducible refine Rd.yes ?_ | with_reducible refine Rd.ifT ?_ | with_reducible refine Rd.ifF ?_ | with_reducible refine Rd.ifnT ?_ | with_reducible refine Rd.ifnF ?_ | with_reducible refine Rd.isi_ii ?_ | with_reducible refine Rd.isi_ib ?_ | with_reducible refine Rd.isi_is ?_ | with_reducible refine Rd.isi_il ?_ | with_reducible refine Rd.isi_it ?_ | with_reducible refine Rd.isi_id ?_ | with_reducible refine Rd.isi_bi ?_ | with_reducible refine Rd.isi_bb ?_ | with_reducible refine Rd.isi_bs ?_ | with_reducible refine Rd.isi_bl ?_ | with_reducible refine Rd.isi_bt ?_ | with_reducible refine Rd.isi_bd ?_ | with_reducible refine Rd.isi_si ?_ | with_reducible refine Rd.isi_sb ?_ | with_reducible refine Rd.isi_ss ?_ | with_reducible refine Rd.isi_sl ?_ | with_reducible refine Rd.isi_st ?_ | with_reducible refine Rd.isi_sd ?_ | with_reducible refine Rd.isi_ni ?_ | with_reducible refine Rd.isi_nb ?_ | with_reducible refine Rd.isi_ns ?_ | with_reducible refine Rd.isi_nl ?_ | with_reducible refine Rd.isi_nt ?_ | with_reducible refine Rd.isi_nd ?_ | with_reducible refine Rd.sl ?_ | with_reducible refine Rd.v0 ?_ | with_reducible refine Rd.v1 ?_ | with_reducible refine Rd.v2 ?_ | with_reducible refine Rd.v3 ?_ | with_reducible refine Rd.v4 ?_ | with_reducible refine Rd.v5 ?_ | with_reducible refine Rd.v6 ?_ | with_reducible refine Rd.v7 ?_ | with_reducible refine Rd.v8 ?_ | with_reducible refine Rd.v9 ?_ | with_reducible refine Rd.v10 ?_ | with_reducible refine Rd.v11 ?_ | with_reducible refine Rd.v12 ?_ | with_reducible refine Rd.v13 ?_ | with_reducible refine Rd.v14 ?_ | with_reducible refine Rd.v15 ?_ | with_reducible refine Rd.n0 ?_ | with_reducible refine Rd.n1 ?_ | with_reducible refine Rd.n2 ?_ | with_reducible refine Rd.n3 ?_ | with_reducible refine Rd.n4 ?_ | with_reducible refine Rd.n5 ?_ | with_reducible refine Rd.n6 ?_ | with_reducible refine Rd.n7 ?_ | with_reducible refine Rd.n8 ?_ | with_reducible refine Rd.n9 ?_ | with_reducible refine Rd.n10 ?_ | with_reducible refine Rd.n11 ?_ | with_reducible refine Rd.n12 ?_ | with_reducible refine Rd.n13 ?_ | with_reducible refine Rd.n14 ?_ | with_reducible refine Rd.n15 ?_ | with_reducible refine Rd.g0 ?_ | with_reducible refine Rd.g1 ?_ | with_reducible refine Rd.g2 ?_ | with_reducible refine Rd.g3 ?_ | with_reducible refine Rd.g4 ?_ | with_reducible refine Rd.g5 ?_ | with_reducible refine Rd.g6 ?_ | with_reducible refine Rd.g7 ?_ | with_reducible refine Rd.g8 ?_ | with_reducible refine Rd.g9 ?_ | with_reducible refine Rd.g10 ?_ | with_reducible refine Rd.g11 ?_ | with_reducible refine Rd.g12 ?_ | with_reducible refine Rd.g13 ?_ | with_reducible refine Rd.g14 ?_ | with_reducible refine Rd.g15 ?_ | ((with_reducible apply Rd.glst); (first | assumption | exact upd_same); exact rfl) | ((with_reducible apply Rd.gtP); assumption; assumption) | ((with_reducible apply Rd.revq); first | assumption | exact SqL.of (by assumption)) | ((with_reducible apply Rd.fldI); (first | assumption | exact upd_same); assumption; assumption; (first | assumption | with_unfolding_all rfl)) | ((with_reducible apply Rd.methI); (first | assumption | exact upd_same); (first | assumption | with_unfolding_all rfl)) | ((with_reducible apply Rd.sfldI); (first | assumption | exact upd_same); assumption; assumption; exact Nat.le_of_ble_eq_true rfl) | ((with_reducible apply Rd.maxL); assumption) | ((with_reducible apply Rd.anyL); assumption) | ((with_reducible apply Rd.sumL); assumption) | ((with_reducible refine Rd.izI (by assumption) (by assumption) ?_)) | ((with_reducible refine Rd.eq ?_ ?_); exact rfl) | ((with_reducible refine Rd.ne ?_ ?_); exact rfl) | ((with_reducible refine Rd.szA ?_ ?_); exact Nat.le_of_ble_eq_true rfl) | ((with_reducible refine Rd.I ?_ ?_); first | assumption | decide | exact Or.inr (by decide +kernel) | exact Or.inl (by decide +kernel) | exact ⟨by decide, by decide⟩ | exact ⟨by decide, by decide, by decide⟩ | omega) | ((with_reducible apply Rd.tyL); first | assumption | exact upd_same) | ((with_reducible apply Rd.tyLq); assumption) | ((with_reducible apply Rd.ixL); (first | assumption | exact upd_same); exact rfl) | ((with_reducible apply Rd.ixT); (first | assumption | exact upd_same); exact rfl) | ((with_reducible apply Rd.ixLq); assumption; exact rfl) | ((with_reducible apply Rd.ixTq); assumption; exact rfl) | ((with_reducible apply Rd.gtup); (first | assumption | exact upd_same); exact rfl) | ((with_reducible apply Rd.gtupq); assumption; exact rfl) | ((with_reducible apply Rd.sqAq); assumption) | ((with_reducible apply Rd.stAq); assumption) | ((with_reducible apply Rd.enAq); assumption) | ((with_reducible apply Rd.lenLq); assumption) | ((with_reducible apply Rd.lenTq); assumption) | ((with_reducible apply Rd.sqA); first | assumption | exact upd_same) | ((with_reducible apply Rd.stA); first | assumption | exact upd_same) | ((with_reducible apply Rd.enA); first | assumption | exact upd_same) | ((with_reducible apply Rd.lenL); first | assumption | exact upd_same) | ((with_reducible apply Rd.lenT); first | assumption | exact upd_same) | ((with_reducible refine Rd.nwT ?_ ?_); exact Nat.le_of_ble_eq_true rfl) | ((with_reducible refine Rd.nwL ?_ ?_); exact Nat.le_of_ble_eq_true rfl) | ((with_reducible apply Rd.listOf); assumption) | ((with_reducible apply Rd.listOfq); assumption) | ((with_reducible apply Rd.slo); assumption) | ((with_reducible apply Rd.slq); assumption) | ((with_reducible apply Rd.srtI); assumption) | ((with_reducible apply Rd.srtIo); assumption) | ((with_reducible refine Rd.isi_li (by assumption) ?_)) | ((with_reducible refine Rd.isi_lb (by assumption) ?_)) | ((with_reducible refine Rd.isi_ls (by assumption) ?_)) | ((with_reducible refine Rd.isi_ll (by assumption) ?_)) | ((with_reducible refine Rd.isi_lt (by assumption) ?_)) | ((with_reducible refine Rd.isi_ld (by assumption) ?_)) | ((with_reducible refine Rd.isi_ti (by assumption) ?_)) | ((with_reducible refine Rd.isi_tb (by assumption) ?_)) | ((with_reducible refine Rd.isi_ts (by assumption) ?_)) | ((with_reducible refine Rd.isi_tl (by assumption) ?_)) | ((with_reducible refine Rd.isi_tt (by assumption) ?_)) | ((with_reducible refine Rd.isi_td (by assumption) ?_)))))

theorem _root_.L2.Same.cutF {H H' : Hp} {F : Addr} (s : Same H H') (n : H F = none) : Same H (Cut (fun a => a = F) H') := fun a x e => Cut.at (fun z => by rw [z, n] at e; cases e) (s a x e)
section
variable {P : Program} {w : World} {K : PySem.W.Frag} {mg : Str → Option Value} {base : Heap}
def sp_law (K : PySem.W.Frag) : Sp := fun vs H Q _ => ∃ (a : Addr) (ns : List Int), vs = [.ref a] ∧ SqL K H a (ns.map V.int) ∧ ns.length ≤ 63 ∧ ∀ H', Q (.bl true) H'
theorem ok_law (T : Top K mg) : FnG P w K mg base 43 T.a_law T.d_law ["script"]  (sp_law K) := by
  refine T.F_law.okG sc_law (fun vs H Q E h => ?_) (fun cdv A outer s H vs Q E gA hr h => ?_)
  · obtain ⟨_, _, rfl, _⟩ := h
    rfl
  · obtain ⟨l, ns, rfl, hS, hlen, q⟩ := h
    refine ⟨_, (pss_cons (ps_set (i := 1) sc_law.nd rfl (by first | exact Or.inl rfl | exact Or.inr rfl) (pe_call (ok__law_state T) (hr.mono (by decide)) (by rfl) T.g__law_state T.F__law_state.kp T.b__law_state .nil pass0 (pa_cons (pv 0) pa_nil)))
  (pss_cons (ps_set (i := 2) sc_law.nd rfl (by first | exact Or.inl rfl | exact Or.inr rfl) (pe_call (ok__law_program T) (hr.mono (by decide)) (by rfl) T.g__law_program T.F__law_program.kp T.b__law_program .nil pass0 (pa_cons (pv 1) (pa_cons pe_int (pa_cons pe_int pa_nil)))))
  (pss_cons (ps_set (i := 3) sc_law.nd rfl (by first | exact Or.inl rfl | exact Or.inr rfl) (pe_callB (cr_reprD gA (room70 hr)) (by rfl) T.m_repr (by decide +kernel) (pa_cons (pv 2) pa_nil)))
  (pss_cons (ps_for PassesOwn.never rfl (pi_list (pe_lst (pa_cons (pe_ix ix_tup (pv 2) pe_int (fun _ _ => rfl)) (pa_cons (pe_ix ix_tup (pv 2) pe_int (fun _ _ => rfl)) (pa_cons (pe_ix ix_tup (pv 2) pe_int (fun _ _ => rfl)) (pa_cons (pe_ix ix_tup (pv 2) pe_int (fun _ _ => rfl)) pa_nil)))))) (pg_name (i := 4) sc_law.nd rfl (by first | exact Or.inl rfl | exact Or.inr rfl))
  (pss_one (ps_if (pw_or (pt_cmpR (op_neD hr.units) (pe_lc (own := [("row", 5)]) (g := gName 5) (tt := tYes) rfl sc_law.nd (pi_list (pv 4)) (blkOk_by (N := ["script", "state", "program", "before", "rows", "row", "k", "reach", "at", "users", "task", "item", "first", "second"]) (sc := defScope s_law) (by decide +kernel)) (fun _ _ _ _ _ => pg_name (i := 5) sc_law.nd rfl (Or.inl rfl)) (fun _ _ _ _ _ => pts_nil) (fun _ _ _ _ _ => (pe_call (ok_find T) (hr.mono (by decide)) (by rfl) T.g_find T.F_find.kp T.b_find .nil pass0 (pa_cons (pv 4) (pa_cons (pe_ix (r := rIxT K) ix_tup (pv 5) pe_int (fun _ _ => rfl)) pa_nil))))) (pe_lc (own := [("k", 6)]) (g := gName 6) (tt := tYes) rfl sc_law.nd (pi_range1 (by rfl) T.m_range (pa_cons (pe_callB call_len_seq (by rfl) T.m_len PySem.boot_len (pa_cons (pv 4) pa_nil)) pa_nil)) (blkOk_by (N := ["script", "state", "program", "before", "rows", "row", "k", "reach", "at", "users", "task", "item", "first", "second"]) (sc := defScope s_law) (by decide +kernel)) (fun _ _ _ _ _ => pg_name (i := 6) sc_law.nd rfl (Or.inl rfl)) (fun _ _ _ _ _ => pts_nil) (fun _ _ _ _ _ => (pv 6))) (nomark _)) (pw_or1 (pt_cmpR op_ne (pe_call (ok_find T) (hr.mono (by decide)) (by rfl) T.g_find T.F_find.kp T.b_find .nil pass0 (pa_cons (pv 4) (pa_cons pe_str pa_nil))) (pe_un un_neg pe_int) (nomark _)))).pt
  (pss_one (ps_ret pe_bl))
  pss_nil)))
  (pss_cons (ps_setLc (i := 7) (own := [("at", 8)]) (g := gName 8) (tt := tYes) rfl sc_law.nd rfl rfl (sw_true rfl rfl rfl (by decide +kernel)) (pi_range1 (by rfl) T.m_range (pa_cons (pe_callB call_len_seq (by rfl) T.m_len PySem.boot_len (pa_cons (pe_ix ix_tup (pv 2) pe_int (fun _ _ => rfl)) pa_nil)) pa_nil)) (blkOk_by (N := ["script", "state", "program", "before", "rows", "row", "k", "reach", "at", "users", "task", "item", "first", "second"]) (sc := defScope s_law) (by decide +kernel)) (fun _ _ _ _ _ => pg_name (i := 8) sc_law.nd rfl (Or.inl rfl)) (fun _ _ _ _ _ => pts_nil) (fun _ _ _ _ _ => (pe_call (ok__law_grow T) (hr.mono (by decide)) (by rfl) T.g__law_grow T.F__law_grow.kp T.b__law_grow .nil pass0 (pa_cons (pv 2) (pa_cons (pe_lst (pa_cons (pv 8) pa_nil)) pa_nil)))))
  (pss_cons (ps_setLc (i := 9) (own := [("task", 10)]) (g := gName 10) (tt := tYes) rfl sc_law.nd rfl rfl (sw_true rfl rfl rfl (by decide +kernel)) (pi_list (pe_ix ix_tup (pv 2) pe_int (fun _ _ => rfl))) (blkOk_by (N := ["script", "state", "program", "before", "rows", "row", "k", "reach", "at", "users", "task", "item", "first", "second"]) (sc := defScope s_law) (by decide +kernel)) (fun _ _ _ _ _ => pg_name (i := 10) sc_law.nd rfl (Or.inl rfl)) (fun _ _ _ _ _ => pts_nil) (fun _ _ _ _ _ => (pe_call (ok__law_start T) (hr.mono (by decide)) (by rfl) T.g__law_start T.F__law_start.kp T.b__law_start .nil pass0 (pa_cons (pv 2) (pa_cons (pe_call (ok__law_names T) (hr.mono (by decide)) (by rfl) T.g__law_names T.F__law_names.kp T.b__law_names .nil pass0 (pa_cons (pe_ix (r := rIxT K) ix_tup (pv 10) pe_int (fun _ _ => rfl)) pa_nil)) pa_nil)))))
  (pss_cons (ps_set (i := 9) sc_law.nd rfl (by first | exact Or.inl rfl | exact Or.inr rfl) (pe_op op_catQ (pv 9) (pe_lc (own := [("item", 11)]) (g := gName 11) (tt := tYes) rfl sc_law.nd (pi_list (pe_ix ix_tup (pv 2) pe_int (fun _ _ => rfl))) (blkOk_by (N := ["script", "state", "program", "before", "rows", "row", "k", "reach", "at", "users", "task", "item", "first", "second"]) (sc := defScope s_law) (by decide +kernel)) (fun _ _ _ _ _ => pg_name (i := 11) sc_law.nd rfl (Or.inl rfl)) (fun _ _ _ _ _ => pts_nil) (fun _ _ _ _ _ => (pe_call (ok__law_start T) (hr.mono (by decide)) (by rfl) T.g__law_start T.F__law_start.kp T.b__law_start .nil pass0 (pa_cons (pv 2) (pa_cons (pe_lst (pa_cons (pe_ix (r := rIxT K) ix_tup (pv 11) pe_int (fun _ _ => rfl)) pa_nil)) pa_nil)))))))
  (pss_cons (ps_for PassesOwn.never rfl (pi_range1 (by rfl) T.m_range (pa_cons pe_int pa_nil)) (pg_name (i := 6) sc_law.nd rfl (by first | exact Or.inl rfl | exact Or.inr rfl))
  (pss_cons (ps_set (i := 12) sc_law.nd rfl (by first | exact Or.inl rfl | exact Or.inr rfl) (pe_call (ok_reached T) (hr.mono (by decide)) (by rfl) T.g_reached T.F_reached.kp T.b_reached .nil pass0 (pa_cons (pv 2) pa_nil)))
  (pss_cons (ps_set (i := 13) sc_law.nd rfl (by first | exact Or.inl rfl | exact Or.inr rfl) (pe_call (ok_used T) (hr.mono (by decide)) (by rfl) T.g_used T.F_used.kp T.b_used .nil pass0 (pa_cons (pv 2) pa_nil)))
  (pss_cons (ps_if (pw_or (pt_not (pt_val (pe_call (ok__law_same T) (hr.mono (by decide)) (by rfl) T.g__law_same T.F__law_same.kp T.b__law_same .nil pass0 (pa_cons (pv 12) (pa_cons (pv 7) pa_nil))))) (pw_or1 (pt_not (pt_val (pe_call (ok__law_same T) (hr.mono (by decide)) (by rfl) T.g__law_same T.F__law_same.kp T.b__law_same .nil pass0 (pa_cons (pv 13) (pa_cons (pv 9) pa_nil))))))).pt
  (pss_one (ps_ret pe_bl))
  pss_nil)
  (pss_one (ps_for PassesOwn.never rfl (pi_list (pe_op op_catQ (pv 12) (pv 13))) (pg_name (i := 5) sc_law.nd rfl (by first | exact Or.inl rfl | exact Or.inr rfl))
  (pss_one (ps_expr (pe_bm PySem.F.plainAttrs_list PySem.F.slot_list_append PySem.F.type_list_append mt_append (pv 5) (pa_cons pe_int pa_nil))))))))))
  (pss_one (ps_ret (pe_cmpR op_eq (pe_callB (cr_reprD gA (room70 hr)) (by rfl) T.m_repr (by decide +kernel) (pa_cons (pv 2) pa_nil)) (pv 3) (nomark _)))))))))))), ?_⟩
    rw [show ∀ a0 : V, L2.start ["script", "state", "program", "before", "rows", "row", "k", "reach", "at", "users", "task", "item", "first", "second"] [a0] = [some a0, none, none, none, none, none, none, none, none, none, none, none, none, none] from fun _ => rfl]
    walk_at "my rn"
    refine ⟨l, ns, rfl, hS, hlen, fun H0 p c s0 np nc st0 => ?_⟩
    have lvp : ∀ {Hx : Hp}, StOk Hx p c → Live (fun a => a = p ∨ a = c) Hx := fun st a m => by
      obtain ⟨ms, sd, _, hp, hc, _⟩ := st
      rcases m with rfl | rfl
      · exact ⟨_, hp⟩
      · exact ⟨_, hc⟩
    walk_at "my rn"
    refine ⟨fun a => a = p ∨ a = c, p, c, 3, 3, rfl, st0, .inl rfl, .inr rfl, lvp st0, by decide, by decide, by decide, fun v pg ports cs H1 dv0 pG st1 k1 => ?_⟩
    have dv := dp_same (Cut.sub (S := fun a => a = p ∨ a = c)) dv0
    have rp := pG.rp
    obtain ⟨t, w0, w1, Po, O, Tt, I, os, ts, is, rfl, ht, pa, rP, rO, rT, rI⟩ := pG.rows dv
    have pw := pG.pgw
    have pnd := pG.nodup
    have lO := pa.lenO
    obtain ⟨f1, f2, f3⟩ := pw.few
    walk_at "my rn"
    refine ⟨t, pg.d, rfl, dv, rp.sh, rp.nd, Nat.le_trans rp.dp (by decide), Nat.le_trans rp.ln (by decide), ?_⟩
    walk_at "my rn"
    intro A0 H2 nA s2 hA
    walk_at "my rn"
    refine for_it (walk_list (xs := [.ref Po, .ref O, .ref Tt, .ref I])) (fun i σ H' => ∃ (y4 y5 y6 : Option V), σ = [some (.ref l), some (.ref p), some (.ref t), some (.str pg.d.shown), y4, y5, y6, none, none, none, none, none, none, none] ∧ Same H2 H') ⟨none, none, none, rfl, Same.refl _⟩ (fun i σ H' _ ⟨_, _, _, _, s⟩ => SqL.of (s _ _ hA)) ?_ ?_
    · rintro i x σ H3o H3 hi ⟨y4, y5, y6, rfl, s3⟩ ⟨rfl, hx⟩
      obtain ⟨L, rfl, rL⟩ : ∃ L, x = .ref L ∧ RowsOk K H1 L := by
        have m := List.mem_of_getElem? hx
        simp only [List.mem_cons, List.mem_nil_iff, or_false] at m
        rcases m with rfl | rfl | rfl | rfl
        · exact ⟨_, rfl, rP⟩
        · exact ⟨_, rfl, rO⟩
        · exact ⟨_, rfl, rT⟩
        · exact ⟨_, rfl, rI⟩
      obtain ⟨xs, ns', hL, nm, ndn, l4, nob⟩ := rL.same (s2.trans s3)
      have lns := nm.1
      walk_at "my rn"
      intro D nD
      refine Rd.lc_rel (walk_list (xs := xs)) (fun j v _ => v = .int (j : Int)) nD (by omega) (fun _ _ _ _ h _ => h) (fun H b => (b.to nD).seq hL) (fun j x Hjo Hj Kt hj b hDl y kt => ?_) (fun H4 vs lvs hvs s4 hD => ?_)
      · obtain ⟨rfl, hx⟩ := y
        have sj := b.to nD
        obtain ⟨t6, fs, s6, rfl, hf, hf1, hn⟩ := nm.2 j x hx
        have hf := sj.seqT hf
        have hLj := sj.seq hL
        simp only [List.map_cons, List.map_nil, L2.wipe, List.set_cons_succ, List.set_cons_zero]
        walk_at "my rn"
        refine ⟨rfl, ?_⟩
        walk_at "my rn"
        refine Rd.ixTq hf (Rd.at_val (j := 1) rfl hf1) ?_
        walk_at "my rn"
        refine ⟨L, xs, ns', s6, rfl, hLj, nm.same sj, by omega, fun H' s' => ?_⟩
        rw [findN_nd ndn hn]
        exact kt _ _ rfl s'
      · have evs : vs = (zi (List.range xs.length)).map V.int := by
          refine List.ext_getElem? fun j => ?_
          unfold zi
          rw [List.getElem?_map, List.getElem?_map]
          by_cases hj : j < xs.length
          · have e := List.getElem?_eq_getElem (l := vs) (i := j) (by omega)
            rw [List.getElem?_range hj, e, hvs j _ e]; rfl
          · rw [List.getElem?_eq_none (by omega), List.getElem?_eq_none (by rw [List.length_range]; omega)]; rfl
        rw [evs] at hD
        have hL4 := s4.seq hL
        walk_at "my rn"
        refine ⟨by omega, by omega, fun D2 nD2 => ?_⟩
        rw [Int.toNat_natCast]
        refine Rd.lc_rel walk_range (fun j v _ => v = .int (j : Int)) nD2 (by omega) (fun _ _ _ _ h _ => h) (fun _ _ => trivial) (fun j x Hjo Hj Kt hj b hDl y kt => ?_) (fun H5 us lus hus s5 hD2 => ?_)
        · obtain ⟨rfl, e3⟩ := Rd.zr y
          subst e3
          simp only [List.map_cons, List.map_nil, L2.wipe, List.set_cons_succ, List.set_cons_zero]
          walk_at "my rn"
          refine ⟨rfl, ?_⟩
          walk_at "my rn"
          exact kt _ _ rfl (Same.refl _)
        · have eus : us = (zi (List.range xs.length)).map V.int := by
            refine List.ext_getElem? fun j => ?_
            unfold zi
            rw [List.getElem?_map, List.getElem?_map]
            by_cases hj : j < xs.length
            · have e := List.getElem?_eq_getElem (l := us) (i := j) (by omega)
              rw [List.getElem?_range hj, e, hus j _ e]; rfl
            · rw [List.getElem?_eq_none (by omega), List.getElem?_eq_none (by rw [List.length_range]; omega)]; rfl
          rw [eus] at hD2
          refine Rd.neD (dp_ints (SqL.of (s5 _ _ hD))) (dp_ints (SqL.of hD2)) (ints_shaped _) (ints_shaped _) ?_
          rw [eqv_ints, decide_eq_true rfl]
          walk_at "my rn"
          have s35 := s4.trans s5
          refine ⟨L, xs, ns', "nobody", rfl, s35.seq hL, nm.same s35, by omega, fun H6 s6 => ?_⟩
          have efn : findN ns' "nobody" = -1 := by unfold findN; rw [if_neg nob]
          rw [efn]
          walk_at "my rn"
          rw [decide_eq_true rfl]
          refine Rd.ifnT ?_
          exact ⟨_, _, _, rfl, s3.trans (s35.trans s6)⟩
    · rintro σ H3 ⟨y4, y5, y6, rfl, s3⟩
      have s13 := s2.trans s3
      have ht3 := s13.seqT ht
      have pa3 := pa.same s13
      have hO3 := pa3.hO
      have hsm : ∀ o ∈ pg.obs, o.ops.length ≤ 10 ∧ ∀ x ∈ o.ops, nests x.body ≤ 3 := fun o m => by
        obtain ⟨i, hi⟩ := List.getElem?_of_mem m
        obtain ⟨a, b⟩ := pG.ops hi
        exact ⟨by omega, fun x mx => by have := (b x mx).1; omega⟩
      walk_at "my rn"
      refine ⟨by omega, by omega, fun D nD => ?_⟩
      rw [Int.toNat_natCast]
      refine lc_fresh walk_range (fun i r => IsGrow pg.E [i] r) nD (by omega) (fun _ _ => trivial) (fun i x Hi Hi' Kt hi si y kt => ?_) (fun H4 l1 r1 lr1 hr1 fa1 s4 => ?_)
      · obtain ⟨rfl, e3⟩ := Rd.zr y
        subst e3
        simp only [List.map_cons, List.map_nil, L2.wipe, List.set_cons_succ, List.set_cons_zero]
        walk_at "my rn"
        refine ⟨rfl, ?_⟩
        walk_at "my rn"
        intro F Hj nF sF hF
        walk_at "my rn"
        refine ⟨t, O, Tt, I, F, os, ts, is, pg, [i], rfl, pa3.same ((si.trans sF).cutF (si.free nF)), pw, pnd, hsm, hF, by simp, fun k m => by rw [List.mem_singleton] at m; omega, fun L r H' bt nL hL ig => ?_⟩
        exact kt L r H' ig (fun a x e => bt a x (fun z => by rw [z, nF] at e; cases e) (sF _ _ e)) (sF.free nL) hL
      · have s14 := s13.trans s4
        have ht4 := s14.seqT ht
        have pa4 := pa.same s14
        have hT4 := pa4.hT
        have lT := dps_len pa.aT
        rw [List.length_map] at lT
        have lI := dps_len pa.aI
        rw [List.length_map] at lI
        walk_at "my rn"
        intro D2 nD2
        refine lc_fresh (walk_list (xs := ts)) (fun i r => ∃ tk, pg.tasks[i]? = some tk ∧ IsUse pg (callsN tk.body) r) nD2 (by omega) (fun H s => s.seq hT4) (fun i x Hi Hi' Kt hi si y kt => ?_) (fun H5 l2 r2 lr2 hr2 fa2 s5 => ?_)
        · obtain ⟨rfl, hx⟩ := y
          obtain ⟨d, hd, dd⟩ := dp_at' (pa4.same si).aT hx
          obtain ⟨tk, htk, rfl⟩ : ∃ o, pg.tasks[i]? = some o ∧ o.d = d := by
            rw [List.getElem?_map] at hd
            cases z : pg.tasks[i]? with
            | none => rw [z] at hd; cases hd
            | some s => rw [z] at hd; exact ⟨s, rfl, Option.some.inj hd⟩
          have mtk := List.mem_of_getElem? htk
          obtain ⟨t5, xs, rfl, hx5, a5⟩ := dpT dd
          obtain ⟨u0, g0, rfl, _, a5⟩ := dp1 a5
          obtain ⟨u1, g0, rfl, _, a5⟩ := dp1 a5
          obtain ⟨u2, g0, rfl, _, a5⟩ := dp1 a5
          obtain ⟨u3, g0, rfl, _, a5⟩ := dp1 a5
          obtain ⟨u4, g0, rfl, _, a5⟩ := dp1 a5
          obtain ⟨u5, g0, rfl, d5, a5⟩ := dp1 a5
          cases dp0 a5
          obtain ⟨bp, _⟩ := pw.body tk mtk
          have n3 : nests tk.body ≤ 3 := by
            obtain ⟨z, wi, ev, _, _, _, _, _, _, _, _, bw⟩ := (pG.tg i tk htk).ex
            have := (bd_fl bw).ne
            omega
          have hti := si.seqT ht4
          simp only [List.map_cons, List.map_nil, L2.wipe, List.set_cons_succ, List.set_cons_zero]
          walk_at "my rn"
          refine ⟨rfl, ?_⟩
          walk_at "my rn"
          refine ⟨u5, tk.body, rfl, d5, n3, bp.size, fun Ln Hj sj nn hn => ?_⟩
          walk_at "my rn"
          refine ⟨t, O, Tt, I, Ln, os, ts, is, pg, callsN tk.body, rfl, pa4.same (si.trans sj), pw, pnd, hsm, hn, bp.calls, fun L r H' s' nL hL iu => ?_⟩
          exact kt L r H' ⟨tk, htk, iu⟩ (sj.trans s') (sj.free nL) hL
        · have s15 := s14.trans s5
          have ht5 := s15.seqT ht
          have pa5 := pa.same s15
          have hI5 := pa5.hI
          have hU5 := fa2.at_
          walk_at "my rn"
          intro D3 nD3
          refine lc_fresh (walk_list (xs := is)) (fun i r => ∃ tk, pg.irs[i]? = some tk ∧ IsUse pg [tk.obj] r) nD3 (by omega) (fun H s => s.seq hI5) (fun i x Hi Hi' Kt hi si y kt => ?_) (fun H6 l3 r3 lr3 hr3 fa3 s6 => ?_)
          · obtain ⟨rfl, hx⟩ := y
            obtain ⟨d, hd, dd⟩ := dp_at' (pa5.same si).aI hx
            obtain ⟨tk, htk, rfl⟩ : ∃ o, pg.irs[i]? = some o ∧ o.d = d := by
              rw [List.getElem?_map] at hd
              cases z : pg.irs[i]? with
              | none => rw [z] at hd; cases hd
              | some s => rw [z] at hd; exact ⟨s, rfl, Option.some.inj hd⟩
            have mtk := List.mem_of_getElem? htk
            obtain ⟨t5, xs, rfl, hx5, a5⟩ := dpT dd
            obtain ⟨u0, g0, rfl, _, a5⟩ := dp1 a5
            obtain ⟨u1, g0, rfl, _, a5⟩ := dp1 a5
            obtain ⟨u2, g0, rfl, _, a5⟩ := dp1 a5
            obtain ⟨u3, g0, rfl, _, a5⟩ := dp1 a5
            obtain ⟨u4, g0, rfl, d4, a5⟩ := dp1 a5
            obtain ⟨u5, g0, rfl, _, a5⟩ := dp1 a5
            obtain ⟨u6, g0, rfl, _, a5⟩ := dp1 a5
            cases dp0 a5; cases dpS d4
            have hti := si.seqT ht5
            simp only [List.map_cons, List.map_nil, L2.wipe, List.set_cons_succ, List.set_cons_zero]
            walk_at "my rn"
            refine ⟨rfl, ?_⟩
            walk_at "my rn"
            intro Ln Hj nn sj hn
            walk_at "my rn"
            refine ⟨t, O, Tt, I, Ln, os, ts, is, pg, [tk.obj], rfl, pa5.same (si.trans sj), pw, pnd, hsm, hn, fun nm m => by rw [List.mem_singleton.mp m]; exact pw.irs tk mtk, fun L r H' s' nL hL iu => ?_⟩
            exact kt L r H' ⟨tk, htk, iu⟩ (sj.trans s') (sj.free nL) hL
          · have ll2 := fa2.len
            have ll3 := fa3.len
            walk_at "my rn"
            refine Rd.catQ (SqL.of (s6 _ _ hU5)) (SqL.of fa3.at_) (by rw [List.length_map, List.length_map]; omega) fun U H7 nU s7 hU => ?_
            have faU := fa2.cat fa3 s5 s6 s7 nU hU
            walk_at "my rn"
            have s17 := s15.trans (s6.trans s7)
            have reachAt : ∀ {Hx : Hp}, Same H7 Hx → RowsAt Hx D r1 := fun s => ⟨l1, s _ _ (s7 _ _ (s6 _ _ (s5 _ _ fa1.at_))), fa1.len, fun i a r h1 h2 => s _ _ (s7 _ _ (s6 _ _ (s5 _ _ (fa1.row i a r h1 h2))))⟩
            have usersAt : ∀ {Hx : Hp}, Same H7 Hx → RowsAt Hx U (r2 ++ r3) := fun s => ⟨l2 ++ l3, s _ _ faU.at_, faU.len, fun i a r h1 h2 => s _ _ (faU.row i a r h1 h2)⟩
            have short1 : ∀ r ∈ r1, r.length ≤ 100 := fun r m => by
              obtain ⟨i, hi⟩ := List.getElem?_of_mem m
              have hl := (List.getElem?_eq_some_iff.mp hi).1
              obtain ⟨a, b⟩ := hr1 i r hi
              have := strict_len r 0 (pg.obs.length : Int) a (fun x mx => by
                obtain ⟨j, rfl, k, mk', h⟩ := (b x).mp mx
                rw [List.mem_singleton] at mk'
                subst mk'
                have := reach_lt pw h (by omega)
                omega) (by omega)
              omega
            have useLt : ∀ {nms : List Str} {u : List Int}, (∀ nm ∈ nms, nm ∈ pg.names) → IsUse pg nms u → u.length ≤ 100 := fun {nms u} hm ⟨a, b⟩ => by
              have := strict_len u 0 (pg.obs.length : Int) a (fun x mx => by
                obtain ⟨j, rfl, nm, mn, h⟩ := (b x).mp mx
                have e1 := (findN_mem (hm nm mn)).1
                have e2 : pg.names.length = pg.obs.length := List.length_map _
                have := reach_lt pw h (by omega)
                omega) (by omega)
              omega
            have short2 : ∀ r ∈ r2 ++ r3, r.length ≤ 100 := fun r m => by
              rcases List.mem_append.mp m with m | m
              · obtain ⟨i, hi⟩ := List.getElem?_of_mem m
                obtain ⟨tk, e, iu⟩ := hr2 i r hi
                exact useLt (pw.body tk (List.mem_of_getElem? e)).1.calls iu
              · obtain ⟨i, hi⟩ := List.getElem?_of_mem m
                obtain ⟨tk, e, iu⟩ := hr3 i r hi
                exact useLt (fun nm m => by rw [List.mem_singleton.mp m]; exact pw.irs tk (List.mem_of_getElem? e)) iu
            have useAt : ∀ (i : Nat) r, (r2 ++ r3)[i]? = some r → ∃ nms, pg.uses[i]? = some nms ∧ IsUse pg nms r := fun i r h => by
              unfold Pg.uses
              by_cases hi : i < r2.length
              · rw [List.getElem?_append_left hi] at h
                obtain ⟨tk, e, iu⟩ := hr2 i r h
                exact ⟨_, by rw [List.getElem?_append_left (by rw [List.length_map]; omega), List.getElem?_map, e]; rfl, iu⟩
              · rw [List.getElem?_append_right (by omega)] at h
                obtain ⟨tk, e, iu⟩ := hr3 _ r h
                exact ⟨_, by rw [List.getElem?_append_right (by rw [List.length_map]; omega), List.length_map, List.getElem?_map, show i - pg.tasks.length = i - r2.length from by omega, e]; rfl, iu⟩
            refine ⟨by decide, by decide, for_it walk_range (fun k σ H' => ∃ (y5 y6 y12 y13 : Option V), σ = [some (.ref l), some (.ref p), some (.ref t), some (.str pg.d.shown), y4, y5, y6, some (.ref D), none, some (.ref U), none, none, y12, y13] ∧ Same H7 H') ⟨_, _, _, _, rfl, Same.refl _⟩ (fun _ _ _ _ _ => trivial) ?_ ?_⟩
            · rintro k x σ H8o H8 hk ⟨y5, y6, y12, y13, rfl, s8⟩ yy
              obtain ⟨rfl, e3⟩ := Rd.zr yy
              subst e3
              have s18 := s17.trans s8
              walk_at "my rn"
              refine ⟨t, O, Tt, I, os, ts, is, pg, rfl, pa.same s18, pw, fun F1 lf rf H9 s9 ff lrf irf => ?_⟩
              walk_at "my rn"
              refine ⟨t, O, Tt, I, os, ts, is, pg, rfl, pa.same (s18.trans s9), pw, fun U2 lu ru H10 s10 fu lru iru => ?_⟩
              have e1 : rf = r1 := List.ext_getElem? fun i => by
                by_cases hi : i < rf.length
                · have h1 := List.getElem?_eq_getElem hi
                  have h2 : r1[i]? = some r1[i] := List.getElem?_eq_getElem (by omega)
                  have g1 := irf i _ h1
                  have g2 := hr1 i _ h2
                  rw [h1, h2, rows_ext g1.1 g2.1 fun x => (g1.2 x).trans (Iff.trans ⟨fun ⟨j, a, b⟩ => ⟨j, a, i, List.mem_singleton.mpr rfl, b⟩, fun ⟨j, a, k, m, b⟩ => ⟨j, a, by rw [List.mem_singleton] at m; rw [← m]; exact b⟩⟩ (g2.2 x).symm)]
                · rw [List.getElem?_eq_none (by omega), List.getElem?_eq_none (by omega)]
              have lus : pg.uses.length = r2.length + r3.length := by
                unfold Pg.uses
                rw [List.length_append, List.length_map, List.length_map]; omega
              have e2 : ru = r2 ++ r3 := List.ext_getElem? fun i => by
                have l23 : (r2 ++ r3).length = ru.length := by rw [List.length_append]; omega
                by_cases hi : i < ru.length
                · have h1 := List.getElem?_eq_getElem hi
                  have h2 : (r2 ++ r3)[i]? = some (r2 ++ r3)[i] := List.getElem?_eq_getElem (by omega)
                  obtain ⟨nms, hn, g2⟩ := useAt i _ h2
                  have g1 := iru i nms _ hn h1
                  rw [h1, h2, rows_ext g1.1 g2.1 fun x => (g1.2 x).trans (g2.2 x).symm]
                · rw [List.getElem?_eq_none (by omega), List.getElem?_eq_none (by omega)]
              subst e1
              subst e2
              have lfb : rf.length ≤ 60 := by omega
              have lub : (r2 ++ r3).length ≤ 120 := by rw [List.length_append]; omega
              have lff := ff.len
              have lfu := fu.len
              walk_at "my rn"
              refine ⟨F1, D, rf, rfl, ⟨lf, s10 _ _ ff.at_, ff.len, fun i a r h1 h2 => s10 _ _ (ff.row i a r h1 h2)⟩, reachAt (s8.trans (s9.trans s10)), by omega, fun r m => by have := short1 r m; omega, ?_⟩
              walk_at "my rn"
              refine ⟨U2, U, r2 ++ r3, rfl, ⟨lu, fu.at_, fu.len, fu.row⟩, usersAt (s8.trans (s9.trans s10)), by omega, fun r m => by have := short2 r m; omega, ?_⟩
              walk_at "my rn"
              refine Rd.catQ (SqL.of (s10 _ _ ff.at_)) (SqL.of fu.at_) (by rw [List.length_map, List.length_map]; omega) fun C H11 nC s11 hC => ?_
              have fc := ff.cat fu s9 s10 s11 nC hC
              have hC' : H11 C = some (.lst ((lf ++ lu).map V.ref)) := fc.at_
              have s811 : Same H8 H11 := s9.trans (s10.trans s11)
              walk_at "my rn"
              refine for_it (walk_list (xs := (lf ++ lu).map V.ref)) (fun i σ H' => ∃ (y5 : Option V), σ = [some (.ref l), some (.ref p), some (.ref t), some (.str pg.d.shown), y4, y5, some (.int (k : Int)), some (.ref D), none, some (.ref U), none, none, some (.ref F1), some (.ref U2)] ∧ Same H8 H' ∧ H' C = some (.lst ((lf ++ lu).map V.ref)) ∧ ∀ a ∈ lf ++ lu, ∃ zs : List V, H' a = some (.lst zs) ∧ zs.length ≤ 100 + i)
                ⟨_, rfl, s811, hC', fun a m => ?_⟩ (fun _ σ H' _ ⟨_, _, _, h, _⟩ => SqL.of h) ?_ ?_
              · obtain ⟨i, hi⟩ := List.getElem?_of_mem m
                have hl := (List.getElem?_eq_some_iff.mp hi).1
                have hl2 : i < (rf ++ (r2 ++ r3)).length := by rw [← fc.len]; exact hl
                have hr := List.getElem?_eq_getElem hl2
                have mr := List.mem_of_getElem? hr
                refine ⟨_, fc.row i a _ hi hr, ?_⟩
                rw [List.length_map]
                exact (List.mem_append.mp mr).elim (short1 _) (short2 _)
              · rintro i x σ H12o H12 hi ⟨y5, rfl, s12, hC12, cells⟩ ⟨rfl, hx⟩
                have lls : ((lf ++ lu).map V.ref).length ≤ 180 := by rw [List.length_map, List.length_append]; omega
                obtain ⟨a, ha, rfl⟩ : ∃ a, (lf ++ lu)[i]? = some a ∧ V.ref a = x := by
                  rw [List.getElem?_map] at hx
                  cases z : (lf ++ lu)[i]? with
                  | none => rw [z] at hx; cases hx
                  | some s => rw [z] at hx; exact ⟨s, rfl, Option.some.inj hx⟩
                have ma := List.mem_of_getElem? ha
                obtain ⟨zs, hz, lz⟩ := cells a ma
                obtain ⟨na, aC⟩ := fc.new a ma
                walk_at "my rn"
                refine Rd.app hz (Rd.szl (by omega)) ?_
                refine ⟨_, rfl, fun b o e => ?_, ?_, fun b mb => ?_⟩
                · rw [upd_ne (fun z => by rw [z, na] at e; cases e)]
                  exact s12 b o e
                · rw [upd_ne (Ne.symm aC)]
                  exact hC12
                · by_cases e : b = a
                  · subst e
                    exact ⟨_, upd_same, by rw [List.length_append]; show zs.length + 1 ≤ _; omega⟩
                  · obtain ⟨ys, hy, ly⟩ := cells b mb
                    exact ⟨ys, by rw [upd_ne e]; exact hy, by omega⟩
              · rintro σ H12 ⟨y5, rfl, s12, hC12, cells⟩
                exact ⟨_, _, _, _, rfl, s8.trans s12⟩
            · rintro σ H8 ⟨y5, y6, y12, y13, rfl, s8⟩
              walk_at "my rn"
              refine ⟨t, pg.d, rfl, dp_same (s17.trans s8) dv, rp.sh, rp.nd, Nat.le_trans rp.dp (by decide), Nat.le_trans rp.ln (by decide), ?_⟩
              walk_at "my rn"
              rw [decide_eq_true rfl]
              exact q _
end

def top_mk {P : Program} {w : World} {K : PySem.W.Frag} {h : Heap} {mg : Str → Option Value} (X : K.In h) (G : h.Ns mainGlobals mg)
    {a__law_state : Addr} {od__law_state an__law_state : Option Addr} {sl__law_state : Array (Option Value)} {oc__law_state kV__law_state dc__law_state pm__law_state cd__law_state ct__law_state : Value}
    {a__law_draw : Addr} {od__law_draw an__law_draw : Option Addr} {sl__law_draw : Array (Option Value)} {oc__law_draw kV__law_draw dc__law_draw pm__law_draw cd__law_draw ct__law_draw : Value}
    {a__law_pick : Addr} {od__law_pick an__law_pick : Option Addr} {sl__law_pick : Array (Option Value)} {oc__law_pick kV__law_pick dc__law_pick pm__law_pick cd__law_pick ct__law_pick : Value}
    {a__law_word : Addr} {od__law_word an__law_word : Option Addr} {sl__law_word : Array (Option Value)} {oc__law_word kV__law_word dc__law_word pm__law_word cd__law_word ct__law_word : Value}
    {a__law_expr : Addr} {od__law_expr an__law_expr : Option Addr} {sl__law_expr : Array (Option Value)} {oc__law_expr kV__law_expr dc__law_expr pm__law_expr cd__law_expr ct__law_expr : Value}
    {a__law_place : Addr} {od__law_place an__law_place : Option Addr} {sl__law_place : Array (Option Value)} {oc__law_place kV__law_place dc__law_place pm__law_place cd__law_place ct__law_place : Value}
    {a__law_statement : Addr} {od__law_statement an__law_statement : Option Addr} {sl__law_statement : Array (Option Value)} {oc__law_statement kV__law_statement dc__law_statement pm__law_statement cd__law_statement ct__law_statement : Value}
    {a__law_body : Addr} {od__law_body an__law_body : Option Addr} {sl__law_body : Array (Option Value)} {oc__law_body kV__law_body dc__law_body pm__law_body cd__law_body ct__law_body : Value}
    {a_find : Addr} {od_find an_find : Option Addr} {sl_find : Array (Option Value)} {oc_find kV_find dc_find pm_find cd_find ct_find : Value}
    {a__inside : Addr} {od__inside an__inside : Option Addr} {sl__inside : Array (Option Value)} {oc__inside kV__inside dc__inside pm__inside cd__inside ct__inside : Value}
    {a__copied : Addr} {od__copied an__copied : Option Addr} {sl__copied : Array (Option Value)} {oc__copied kV__copied dc__copied pm__copied cd__copied ct__copied : Value}
    {a__copied_statement : Addr} {od__copied_statement an__copied_statement : Option Addr} {sl__copied_statement : Array (Option Value)} {oc__copied_statement kV__copied_statement dc__copied_statement pm__copied_statement cd__copied_statement ct__copied_statement : Value}
    {a_statements : Addr} {od_statements an_statements : Option Addr} {sl_statements : Array (Option Value)} {oc_statements kV_statements dc_statements pm_statements cd_statements ct_statements : Value}
    {a__reached_by : Addr} {od__reached_by an__reached_by : Option Addr} {sl__reached_by : Array (Option Value)} {oc__reached_by kV__reached_by dc__reached_by pm__reached_by cd__reached_by ct__reached_by : Value}
    {a_reached : Addr} {od_reached an_reached : Option Addr} {sl_reached : Array (Option Value)} {oc_reached kV_reached dc_reached pm_reached cd_reached ct_reached : Value}
    {a_used : Addr} {od_used an_used : Option Addr} {sl_used : Array (Option Value)} {oc_used kV_used dc_used pm_used cd_used ct_used : Value}
    {a__law_objects : Addr} {od__law_objects an__law_objects : Option Addr} {sl__law_objects : Array (Option Value)} {oc__law_objects kV__law_objects dc__law_objects pm__law_objects cd__law_objects ct__law_objects : Value}
    {a__law_program : Addr} {od__law_program an__law_program : Option Addr} {sl__law_program : Array (Option Value)} {oc__law_program kV__law_program dc__law_program pm__law_program cd__law_program ct__law_program : Value}
    {a__law_names : Addr} {od__law_names an__law_names : Option Addr} {sl__law_names : Array (Option Value)} {oc__law_names kV__law_names dc__law_names pm__law_names cd__law_names ct__law_names : Value}
    {a__law_grow : Addr} {od__law_grow an__law_grow : Option Addr} {sl__law_grow : Array (Option Value)} {oc__law_grow kV__law_grow dc__law_grow pm__law_grow cd__law_grow ct__law_grow : Value}
    {a__law_start : Addr} {od__law_start an__law_start : Option Addr} {sl__law_start : Array (Option Value)} {oc__law_start kV__law_start dc__law_start pm__law_start cd__law_start ct__law_start : Value}
    {a__law_same : Addr} {od__law_same an__law_same : Option Addr} {sl__law_same : Array (Option Value)} {oc__law_same kV__law_same dc__law_same pm__law_same cd__law_same ct__law_same : Value}
    {a_law : Addr} {od_law an_law : Option Addr} {sl_law : Array (Option Value)} {oc_law kV_law dc_law pm_law cd_law ct_law : Value}
    (n__law_state : PySem.W.nsIn K mainGlobals "_law_state" = some (some (.ref a__law_state)))
    (n__law_draw : PySem.W.nsIn K mainGlobals "_law_draw" = some (some (.ref a__law_draw)))
    (n__law_pick : PySem.W.nsIn K mainGlobals "_law_pick" = some (some (.ref a__law_pick)))
    (n__law_word : PySem.W.nsIn K mainGlobals "_law_word" = some (some (.ref a__law_word)))
    (n__law_expr : PySem.W.nsIn K mainGlobals "_law_expr" = some (some (.ref a__law_expr)))
    (n__law_place : PySem.W.nsIn K mainGlobals "_law_place" = some (some (.ref a__law_place)))
    (n__law_statement : PySem.W.nsIn K mainGlobals "_law_statement" = some (some (.ref a__law_statement)))
    (n__law_body : PySem.W.nsIn K mainGlobals "_law_body" = some (some (.ref a__law_body)))
    (n_find : PySem.W.nsIn K mainGlobals "find" = some (some (.ref a_find)))
    (n__inside : PySem.W.nsIn K mainGlobals "_inside" = some (some (.ref a__inside)))
    (n__copied : PySem.W.nsIn K mainGlobals "_copied" = some (some (.ref a__copied)))
    (n__copied_statement : PySem.W.nsIn K mainGlobals "_copied_statement" = some (some (.ref a__copied_statement)))
    (n_statements : PySem.W.nsIn K mainGlobals "statements" = some (some (.ref a_statements)))
    (n__reached_by : PySem.W.nsIn K mainGlobals "_reached_by" = some (some (.ref a__reached_by)))
    (n_reached : PySem.W.nsIn K mainGlobals "reached" = some (some (.ref a_reached)))
    (n_used : PySem.W.nsIn K mainGlobals "used" = some (some (.ref a_used)))
    (n__law_objects : PySem.W.nsIn K mainGlobals "_law_objects" = some (some (.ref a__law_objects)))
    (n__law_program : PySem.W.nsIn K mainGlobals "_law_program" = some (some (.ref a__law_program)))
    (n__law_names : PySem.W.nsIn K mainGlobals "_law_names" = some (some (.ref a__law_names)))
    (n__law_grow : PySem.W.nsIn K mainGlobals "_law_grow" = some (some (.ref a__law_grow)))
    (n__law_start : PySem.W.nsIn K mainGlobals "_law_start" = some (some (.ref a__law_start)))
    (n__law_same : PySem.W.nsIn K mainGlobals "_law_same" = some (some (.ref a__law_same)))
    (n_law : PySem.W.nsIn K mainGlobals "law" = some (some (.ref a_law)))
    (l__law_state : K.lookup a__law_state = some ⟨oc__law_state, od__law_state, .func (PySem.W.fnOf "_law_state" "_law_state" (defArgs s__law_state) (defBody s__law_state) (defScope s__law_state) .none kV__law_state dc__law_state pm__law_state an__law_state cd__law_state ct__law_state), sl__law_state⟩)
    (c__law_state : PySem.W.codeIn K cd__law_state "_law_state" = true)
    (k__law_state : PySem.W.keepIn K (.ref a__law_state) = true)
    (l__law_draw : K.lookup a__law_draw = some ⟨oc__law_draw, od__law_draw, .func (PySem.W.fnOf "_law_draw" "_law_draw" (defArgs s__law_draw) (defBody s__law_draw) (defScope s__law_draw) .none kV__law_draw dc__law_draw pm__law_draw an__law_draw cd__law_draw ct__law_draw), sl__law_draw⟩)
    (c__law_draw : PySem.W.codeIn K cd__law_draw "_law_draw" = true)
    (k__law_draw : PySem.W.keepIn K (.ref a__law_draw) = true)
    (l__law_pick : K.lookup a__law_pick = some ⟨oc__law_pick, od__law_pick, .func (PySem.W.fnOf "_law_pick" "_law_pick" (defArgs s__law_pick) (defBody s__law_pick) (defScope s__law_pick) .none kV__law_pick dc__law_pick pm__law_pick an__law_pick cd__law_pick ct__law_pick), sl__law_pick⟩)
    (c__law_pick : PySem.W.codeIn K cd__law_pick "_law_pick" = true)
    (k__law_pick : PySem.W.keepIn K (.ref a__law_pick) = true)
    (l__law_word : K.lookup a__law_word = some ⟨oc__law_word, od__law_word, .func (PySem.W.fnOf "_law_word" "_law_word" (defArgs s__law_word) (defBody s__law_word) (defScope s__law_word) .none kV__law_word dc__law_word pm__law_word an__law_word cd__law_word ct__law_word), sl__law_word⟩)
    (c__law_word : PySem.W.codeIn K cd__law_word "_law_word" = true)
    (k__law_word : PySem.W.keepIn K (.ref a__law_word) = true)
    (l__law_expr : K.lookup a__law_expr = some ⟨oc__law_expr, od__law_expr, .func (PySem.W.fnOf "_law_expr" "_law_expr" (defArgs s__law_expr) (defBody s__law_expr) (defScope s__law_expr) .none kV__law_expr dc__law_expr pm__law_expr an__law_expr cd__law_expr ct__law_expr), sl__law_expr⟩)
    (c__law_expr : PySem.W.codeIn K cd__law_expr "_law_expr" = true)
    (k__law_expr : PySem.W.keepIn K (.ref a__law_expr) = true)
    (l__law_place : K.lookup a__law_place = some ⟨oc__law_place, od__law_place, .func (PySem.W.fnOf "_law_place" "_law_place" (defArgs s__law_place) (defBody s__law_place) (defScope s__law_place) .none kV__law_place dc__law_place pm__law_place an__law_place cd__law_place ct__law_place), sl__law_place⟩)
    (c__law_place : PySem.W.codeIn K cd__law_place "_law_place" = true)
    (k__law_place : PySem.W.keepIn K (.ref a__law_place) = true)
    (l__law_statement : K.lookup a__law_statement = some ⟨oc__law_statement, od__law_statement, .func (PySem.W.fnOf "_law_statement" "_law_statement" (defArgs s__law_statement) (defBody s__law_statement) (defScope s__law_statement) .none kV__law_statement dc__law_statement pm__law_statement an__law_statement cd__law_statement ct__law_statement), sl__law_statement⟩)
    (c__law_statement : PySem.W.codeIn K cd__law_statement "_law_statement" = true)
    (k__law_statement : PySem.W.keepIn K (.ref a__law_statement) = true)
    (l__law_body : K.lookup a__law_body = some ⟨oc__law_body, od__law_body, .func (PySem.W.fnOf "_law_body" "_law_body" (defArgs s__law_body) (defBody s__law_body) (defScope s__law_body) .none kV__law_body dc__law_body pm__law_body an__law_body cd__law_body ct__law_body), sl__law_body⟩)
    (c__law_body : PySem.W.codeIn K cd__law_body "_law_body" = true)
    (k__law_body : PySem.W.keepIn K (.ref a__law_body) = true)
    (l_find : K.lookup a_find = some ⟨oc_find, od_find, .func (PySem.W.fnOf "find" "find" (defArgs s_find) (defBody s_find) (defScope s_find) .none kV_find dc_find pm_find an_find cd_find ct_find), sl_find⟩)
    (c_find : PySem.W.codeIn K cd_find "find" = true)
    (k_find : PySem.W.keepIn K (.ref a_find) = true)
    (l__inside : K.lookup a__inside = some ⟨oc__inside, od__inside, .func (PySem.W.fnOf "_inside" "_inside" (defArgs s__inside) (defBody s__inside) (defScope s__inside) .none kV__inside dc__inside pm__inside an__inside cd__inside ct__inside), sl__inside⟩)
    (c__inside : PySem.W.codeIn K cd__inside "_inside" = true)
    (k__inside : PySem.W.keepIn K (.ref a__inside) = true)
    (l__copied : K.lookup a__copied = some ⟨oc__copied, od__copied, .func (PySem.W.fnOf "_copied" "_copied" (defArgs s__copied) (defBody s__copied) (defScope s__copied) .none kV__copied dc__copied pm__copied an__copied cd__copied ct__copied), sl__copied⟩)
    (c__copied : PySem.W.codeIn K cd__copied "_copied" = true)
    (k__copied : PySem.W.keepIn K (.ref a__copied) = true)
    (l__copied_statement : K.lookup a__copied_statement = some ⟨oc__copied_statement, od__copied_statement, .func (PySem.W.fnOf "_copied_statement" "_copied_statement" (defArgs s__copied_statement) (defBody s__copied_statement) (defScope s__copied_statement) .none kV__copied_statement dc__copied_statement pm__copied_statement an__copied_statement cd__copied_statement ct__copied_statement), sl__copied_statement⟩)
    (c__copied_statement : PySem.W.codeIn K cd__copied_statement "_copied_statement" = true)
    (k__copied_statement : PySem.W.keepIn K (.ref a__copied_statement) = true)
    (l_statements : K.lookup a_statements = some ⟨oc_statements, od_statements, .func (PySem.W.fnOf "statements" "statements" (defArgs s_statements) (defBody s_statements) (defScope s_statements) .none kV_statements dc_statements pm_statements an_statements cd_statements ct_statements), sl_statements⟩)
    (c_statements : PySem.W.codeIn K cd_statements "statements" = true)
    (k_statements : PySem.W.keepIn K (.ref a_statements) = true)
    (l__reached_by : K.lookup a__reached_by = some ⟨oc__reached_by, od__reached_by, .func (PySem.W.fnOf "_reached_by" "_reached_by" (defArgs s__reached_by) (defBody s__reached_by) (defScope s__reached_by) .none kV__reached_by dc__reached_by pm__reached_by an__reached_by cd__reached_by ct__reached_by), sl__reached_by⟩)
    (c__reached_by : PySem.W.codeIn K cd__reached_by "_reached_by" = true)
    (k__reached_by : PySem.W.keepIn K (.ref a__reached_by) = true)
    (l_reached : K.lookup a_reached = some ⟨oc_reached, od_reached, .func (PySem.W.fnOf "reached" "reached" (defArgs s_reached) (defBody s_reached) (defScope s_reached) .none kV_reached dc_reached pm_reached an_reached cd_reached ct_reached), sl_reached⟩)
    (c_reached : PySem.W.codeIn K cd_reached "reached" = true)
    (k_reached : PySem.W.keepIn K (.ref a_reached) = true)
    (l_used : K.lookup a_used = some ⟨oc_used, od_used, .func (PySem.W.fnOf "used" "used" (defArgs s_used) (defBody s_used) (defScope s_used) .none kV_used dc_used pm_used an_used cd_used ct_used), sl_used⟩)
    (c_used : PySem.W.codeIn K cd_used "used" = true)
    (k_used : PySem.W.keepIn K (.ref a_used) = true)
    (l__law_objects : K.lookup a__law_objects = some ⟨oc__law_objects, od__law_objects, .func (PySem.W.fnOf "_law_objects" "_law_objects" (defArgs s__law_objects) (defBody s__law_objects) (defScope s__law_objects) .none kV__law_objects dc__law_objects pm__law_objects an__law_objects cd__law_objects ct__law_objects), sl__law_objects⟩)
    (c__law_objects : PySem.W.codeIn K cd__law_objects "_law_objects" = true)
    (k__law_objects : PySem.W.keepIn K (.ref a__law_objects) = true)
    (l__law_program : K.lookup a__law_program = some ⟨oc__law_program, od__law_program, .func (PySem.W.fnOf "_law_program" "_law_program" (defArgs s__law_program) (defBody s__law_program) (defScope s__law_program) .none kV__law_program dc__law_program pm__law_program an__law_program cd__law_program ct__law_program), sl__law_program⟩)
    (c__law_program : PySem.W.codeIn K cd__law_program "_law_program" = true)
    (k__law_program : PySem.W.keepIn K (.ref a__law_program) = true)
    (l__law_names : K.lookup a__law_names = some ⟨oc__law_names, od__law_names, .func (PySem.W.fnOf "_law_names" "_law_names" (defArgs s__law_names) (defBody s__law_names) (defScope s__law_names) .none kV__law_names dc__law_names pm__law_names an__law_names cd__law_names ct__law_names), sl__law_names⟩)
    (c__law_names : PySem.W.codeIn K cd__law_names "_law_names" = true)
    (k__law_names : PySem.W.keepIn K (.ref a__law_names) = true)
    (l__law_grow : K.lookup a__law_grow = some ⟨oc__law_grow, od__law_grow, .func (PySem.W.fnOf "_law_grow" "_law_grow" (defArgs s__law_grow) (defBody s__law_grow) (defScope s__law_grow) .none kV__law_grow dc__law_grow pm__law_grow an__law_grow cd__law_grow ct__law_grow), sl__law_grow⟩)
    (c__law_grow : PySem.W.codeIn K cd__law_grow "_law_grow" = true)
    (k__law_grow : PySem.W.keepIn K (.ref a__law_grow) = true)
    (l__law_start : K.lookup a__law_start = some ⟨oc__law_start, od__law_start, .func (PySem.W.fnOf "_law_start" "_law_start" (defArgs s__law_start) (defBody s__law_start) (defScope s__law_start) .none kV__law_start dc__law_start pm__law_start an__law_start cd__law_start ct__law_start), sl__law_start⟩)
    (c__law_start : PySem.W.codeIn K cd__law_start "_law_start" = true)
    (k__law_start : PySem.W.keepIn K (.ref a__law_start) = true)
    (l__law_same : K.lookup a__law_same = some ⟨oc__law_same, od__law_same, .func (PySem.W.fnOf "_law_same" "_law_same" (defArgs s__law_same) (defBody s__law_same) (defScope s__law_same) .none kV__law_same dc__law_same pm__law_same an__law_same cd__law_same ct__law_same), sl__law_same⟩)
    (c__law_same : PySem.W.codeIn K cd__law_same "_law_same" = true)
    (k__law_same : PySem.W.keepIn K (.ref a__law_same) = true)
    (l_law : K.lookup a_law = some ⟨oc_law, od_law, .func (PySem.W.fnOf "law" "law" (defArgs s_law) (defBody s_law) (defScope s_law) .none kV_law dc_law pm_law an_law cd_law ct_law), sl_law⟩)
    (c_law : PySem.W.codeIn K cd_law "law" = true)
    (k_law : PySem.W.keepIn K (.ref a_law) = true)
    (z_int : PySem.W.nsIn K mainGlobals "int" = some none)
    (z_abs : PySem.W.nsIn K mainGlobals "abs" = some none)
    (z_len : PySem.W.nsIn K mainGlobals "len" = some none)
    (z_range : PySem.W.nsIn K mainGlobals "range" = some none)
    (z_str : PySem.W.nsIn K mainGlobals "str" = some none)
    (z_enumerate : PySem.W.nsIn K mainGlobals "enumerate" = some none)
    (z_list : PySem.W.nsIn K mainGlobals "list" = some none)
    (z_reversed : PySem.W.nsIn K mainGlobals "reversed" = some none)
    (z_set : PySem.W.nsIn K mainGlobals "set" = some none)
    (z_sorted : PySem.W.nsIn K mainGlobals "sorted" = some none)
    (z_bool : PySem.W.nsIn K mainGlobals "bool" = some none)
    (z_isinstance : PySem.W.nsIn K mainGlobals "isinstance" = some none)
    (z_repr : PySem.W.nsIn K mainGlobals "repr" = some none) :
    Top K mg :=
  { a__law_state := a__law_state,
    d__law_state := _,
    F__law_state := fun_mk (st := s__law_state) l__law_state c__law_state k__law_state,
    g__law_state := PySem.W.mg_of X G n__law_state,
    b__law_state := (fun_mk (st := s__law_state) l__law_state c__law_state k__law_state).binds (ps := ["script"]) fun _ _ _ _ _ _ us hl => match us, hl with | [_], _ => rfl,
    a__law_draw := a__law_draw,
    d__law_draw := _,
    F__law_draw := fun_mk (st := s__law_draw) l__law_draw c__law_draw k__law_draw,
    g__law_draw := PySem.W.mg_of X G n__law_draw,
    b__law_draw := (fun_mk (st := s__law_draw) l__law_draw c__law_draw k__law_draw).binds (ps := ["state", "many"]) fun _ _ _ _ _ _ us hl => match us, hl with | [_, _], _ => rfl,
    a__law_pick := a__law_pick,
    d__law_pick := _,
    F__law_pick := fun_mk (st := s__law_pick) l__law_pick c__law_pick k__law_pick,
    g__law_pick := PySem.W.mg_of X G n__law_pick,
    b__law_pick := (fun_mk (st := s__law_pick) l__law_pick c__law_pick k__law_pick).binds (ps := ["state", "row"]) fun _ _ _ _ _ _ us hl => match us, hl with | [_, _], _ => rfl,
    a__law_word := a__law_word,
    d__law_word := _,
    F__law_word := fun_mk (st := s__law_word) l__law_word c__law_word k__law_word,
    g__law_word := PySem.W.mg_of X G n__law_word,
    b__law_word := (fun_mk (st := s__law_word) l__law_word c__law_word k__law_word).binds (ps := ["state"]) fun _ _ _ _ _ _ us hl => match us, hl with | [_], _ => rfl,
    a__law_expr := a__law_expr,
    d__law_expr := _,
    F__law_expr := fun_mk (st := s__law_expr) l__law_expr c__law_expr k__law_expr,
    g__law_expr := PySem.W.mg_of X G n__law_expr,
    b__law_expr := (fun_mk (st := s__law_expr) l__law_expr c__law_expr k__law_expr).binds (ps := ["state", "env", "deep"]) fun _ _ _ _ _ _ us hl => match us, hl with | [_, _, _], _ => rfl,
    a__law_place := a__law_place,
    d__law_place := _,
    F__law_place := fun_mk (st := s__law_place) l__law_place c__law_place k__law_place,
    g__law_place := PySem.W.mg_of X G n__law_place,
    b__law_place := (fun_mk (st := s__law_place) l__law_place c__law_place k__law_place).binds (ps := ["state", "env"]) fun _ _ _ _ _ _ us hl => match us, hl with | [_, _], _ => rfl,
    a__law_statement := a__law_statement,
    d__law_statement := _,
    F__law_statement := fun_mk (st := s__law_statement) l__law_statement c__law_statement k__law_statement,
    g__law_statement := PySem.W.mg_of X G n__law_statement,
    b__law_statement := (fun_mk (st := s__law_statement) l__law_statement c__law_statement k__law_statement).binds (ps := ["state", "env", "nested"]) fun _ _ _ _ _ _ us hl => match us, hl with | [_, _, _], _ => rfl,
    a__law_body := a__law_body,
    d__law_body := _,
    F__law_body := fun_mk (st := s__law_body) l__law_body c__law_body k__law_body,
    g__law_body := PySem.W.mg_of X G n__law_body,
    b__law_body := (fun_mk (st := s__law_body) l__law_body c__law_body k__law_body).binds (ps := ["state", "env", "nested"]) fun _ _ _ _ _ _ us hl => match us, hl with | [_, _, _], _ => rfl,
    a_find := a_find,
    d_find := _,
    F_find := fun_mk (st := s_find) l_find c_find k_find,
    g_find := PySem.W.mg_of X G n_find,
    b_find := (fun_mk (st := s_find) l_find c_find k_find).binds (ps := ["rows", "name"]) fun _ _ _ _ _ _ us hl => match us, hl with | [_, _], _ => rfl,
    a__inside := a__inside,
    d__inside := _,
    F__inside := fun_mk (st := s__inside) l__inside c__inside k__inside,
    g__inside := PySem.W.mg_of X G n__inside,
    b__inside := (fun_mk (st := s__inside) l__inside c__inside k__inside).binds (ps := ["statement"]) fun _ _ _ _ _ _ us hl => match us, hl with | [_], _ => rfl,
    a__copied := a__copied,
    d__copied := _,
    F__copied := fun_mk (st := s__copied) l__copied c__copied k__copied,
    g__copied := PySem.W.mg_of X G n__copied,
    b__copied := (fun_mk (st := s__copied) l__copied c__copied k__copied).binds (ps := ["body"]) fun _ _ _ _ _ _ us hl => match us, hl with | [_], _ => rfl,
    a__copied_statement := a__copied_statement,
    d__copied_statement := _,
    F__copied_statement := fun_mk (st := s__copied_statement) l__copied_statement c__copied_statement k__copied_statement,
    g__copied_statement := PySem.W.mg_of X G n__copied_statement,
    b__copied_statement := (fun_mk (st := s__copied_statement) l__copied_statement c__copied_statement k__copied_statement).binds (ps := ["statement"]) fun _ _ _ _ _ _ us hl => match us, hl with | [_], _ => rfl,
    a_statements := a_statements,
    d_statements := _,
    F_statements := fun_mk (st := s_statements) l_statements c_statements k_statements,
    g_statements := PySem.W.mg_of X G n_statements,
    b_statements := (fun_mk (st := s_statements) l_statements c_statements k_statements).binds (ps := ["body"]) fun _ _ _ _ _ _ us hl => match us, hl with | [_], _ => rfl,
    a__reached_by := a__reached_by,
    d__reached_by := _,
    F__reached_by := fun_mk (st := s__reached_by) l__reached_by c__reached_by k__reached_by,
    g__reached_by := PySem.W.mg_of X G n__reached_by,
    b__reached_by := (fun_mk (st := s__reached_by) l__reached_by c__reached_by k__reached_by).binds (ps := ["program", "body", "found"]) fun _ _ _ _ _ _ us hl => match us, hl with | [_, _, _], _ => rfl,
    a_reached := a_reached,
    d_reached := _,
    F_reached := fun_mk (st := s_reached) l_reached c_reached k_reached,
    g_reached := PySem.W.mg_of X G n_reached,
    b_reached := (fun_mk (st := s_reached) l_reached c_reached k_reached).binds (ps := ["program"]) fun _ _ _ _ _ _ us hl => match us, hl with | [_], _ => rfl,
    a_used := a_used,
    d_used := _,
    F_used := fun_mk (st := s_used) l_used c_used k_used,
    g_used := PySem.W.mg_of X G n_used,
    b_used := (fun_mk (st := s_used) l_used c_used k_used).binds (ps := ["program"]) fun _ _ _ _ _ _ us hl => match us, hl with | [_], _ => rfl,
    a__law_objects := a__law_objects,
    d__law_objects := _,
    F__law_objects := fun_mk (st := s__law_objects) l__law_objects c__law_objects k__law_objects,
    g__law_objects := PySem.W.mg_of X G n__law_objects,
    b__law_objects := (fun_mk (st := s__law_objects) l__law_objects c__law_objects k__law_objects).binds (ps := ["state", "most"]) fun _ _ _ _ _ _ us hl => match us, hl with | [_, _], _ => rfl,
    a__law_program := a__law_program,
    d__law_program := _,
    F__law_program := fun_mk (st := s__law_program) l__law_program c__law_program k__law_program,
    g__law_program := PySem.W.mg_of X G n__law_program,
    b__law_program := (fun_mk (st := s__law_program) l__law_program c__law_program k__law_program).binds (ps := ["state", "most_tasks", "most_objects"]) fun _ _ _ _ _ _ us hl => match us, hl with | [_, _, _], _ => rfl,
    a__law_names := a__law_names,
    d__law_names := _,
    F__law_names := fun_mk (st := s__law_names) l__law_names c__law_names k__law_names,
    g__law_names := PySem.W.mg_of X G n__law_names,
    b__law_names := (fun_mk (st := s__law_names) l__law_names c__law_names k__law_names).binds (ps := ["body"]) fun _ _ _ _ _ _ us hl => match us, hl with | [_], _ => rfl,
    a__law_grow := a__law_grow,
    d__law_grow := _,
    F__law_grow := fun_mk (st := s__law_grow) l__law_grow c__law_grow k__law_grow,
    g__law_grow := PySem.W.mg_of X G n__law_grow,
    b__law_grow := (fun_mk (st := s__law_grow) l__law_grow c__law_grow k__law_grow).binds (ps := ["program", "found"]) fun _ _ _ _ _ _ us hl => match us, hl with | [_, _], _ => rfl,
    a__law_start := a__law_start,
    d__law_start := _,
    F__law_start := fun_mk (st := s__law_start) l__law_start c__law_start k__law_start,
    g__law_start := PySem.W.mg_of X G n__law_start,
    b__law_start := (fun_mk (st := s__law_start) l__law_start c__law_start k__law_start).binds (ps := ["program", "names"]) fun _ _ _ _ _ _ us hl => match us, hl with | [_, _], _ => rfl,
    a__law_same := a__law_same,
    d__law_same := _,
    F__law_same := fun_mk (st := s__law_same) l__law_same c__law_same k__law_same,
    g__law_same := PySem.W.mg_of X G n__law_same,
    b__law_same := (fun_mk (st := s__law_same) l__law_same c__law_same k__law_same).binds (ps := ["actual", "due"]) fun _ _ _ _ _ _ us hl => match us, hl with | [_, _], _ => rfl,
    a_law := a_law,
    d_law := _,
    F_law := fun_mk (st := s_law) l_law c_law k_law,
    g_law := PySem.W.mg_of X G n_law,
    b_law := (fun_mk (st := s_law) l_law c_law k_law).binds (ps := ["script"]) fun _ _ _ _ _ _ us hl => match us, hl with | [_], _ => rfl,
    m_int := PySem.W.mg_none_of X G z_int,
    m_abs := PySem.W.mg_none_of X G z_abs,
    m_len := PySem.W.mg_none_of X G z_len,
    m_range := PySem.W.mg_none_of X G z_range,
    m_str := PySem.W.mg_none_of X G z_str,
    m_enumerate := PySem.W.mg_none_of X G z_enumerate,
    m_list := PySem.W.mg_none_of X G z_list,
    m_reversed := PySem.W.mg_none_of X G z_reversed,
    m_set := PySem.W.mg_none_of X G z_set,
    m_sorted := PySem.W.mg_none_of X G z_sorted,
    m_bool := PySem.W.mg_none_of X G z_bool,
    m_isinstance := PySem.W.mg_none_of X G z_isinstance,
    m_repr := PySem.W.mg_none_of X G z_repr }
theorem all_mk {l : PySem.W.OpenLaw} {w : World} {K : PySem.W.Frag} {mg : Str → Option Value} {fa : Addr} (T : Top K mg) (hfa : mg "law" = some (.ref fa)) :
    ∃ fd : FuncData, (∀ (s : Shared) (v : Value), BindsTo s fd ⟨[v], []⟩ [("script", v)]) ∧ ∀ base : Heap, FnG l.prog w K mg base 43 fa fd ["script"] (sp_law K) := by
  have e := hfa.symm.trans T.g_law
  cases e
  refine ⟨T.d_law, fun s v => ?_, fun base => ok_law T⟩
  obtain ⟨oc, od, kV, doc, pm, an, cdv, ct, osl, e, lk, hcd⟩ := T.F_law.ex
  rw [e]
  exact .of_eq rfl
end Mine
open PySem PySem.W PyProof.Rows
set_option maxHeartbeats 0 in
theorem PySem.Challenge.cw_deadbeat_k10_reach_and_use_holds : PySem.Challenge.rw_deadbeat_k10_reach_and_use.Holds := by
  w_on; o_law; k_head; (case hw => w_witness2)
  k_fill
  refine L2.walk_g (l := PySem.Challenge.rw_deadbeat_k10_reach_and_use) (n := 63) (k := 43) (x := "script") (sp := fun w => Mine.sp_law _) rfl (by decide) rfl ⟨rfl, by decide, by decide⟩ (fun w h Y => PySem.W.kIn_of Y) ?F (fun _ _ a ns hl hS => ⟨a, ns, rfl, hS, hl, fun _ => rfl⟩)
  case F =>
    intro w mg fa h KX G hmg
    refine' Mine.all_mk (Mine.top_mk (P := PySem.Challenge.rw_deadbeat_k10_reach_and_use.prog) (w := w) KX G ?n__law_state ?n__law_draw ?n__law_pick ?n__law_word ?n__law_expr ?n__law_place ?n__law_statement ?n__law_body ?n_find ?n__inside ?n__copied ?n__copied_statement ?n_statements ?n__reached_by ?n_reached ?n_used ?n__law_objects ?n__law_program ?n__law_names ?n__law_grow ?n__law_start ?n__law_same ?n_law ?l__law_state ?c__law_state ?k__law_state ?l__law_draw ?c__law_draw ?k__law_draw ?l__law_pick ?c__law_pick ?k__law_pick ?l__law_word ?c__law_word ?k__law_word ?l__law_expr ?c__law_expr ?k__law_expr ?l__law_place ?c__law_place ?k__law_place ?l__law_statement ?c__law_statement ?k__law_statement ?l__law_body ?c__law_body ?k__law_body ?l_find ?c_find ?k_find ?l__inside ?c__inside ?k__inside ?l__copied ?c__copied ?k__copied ?l__copied_statement ?c__copied_statement ?k__copied_statement ?l_statements ?c_statements ?k_statements ?l__reached_by ?c__reached_by ?k__reached_by ?l_reached ?c_reached ?k_reached ?l_used ?c_used ?k_used ?l__law_objects ?c__law_objects ?k__law_objects ?l__law_program ?c__law_program ?k__law_program ?l__law_names ?c__law_names ?k__law_names ?l__law_grow ?c__law_grow ?k__law_grow ?l__law_start ?c__law_start ?k__law_start ?l__law_same ?c__law_same ?k__law_same ?l_law ?c_law ?k_law ?z_int ?z_abs ?z_len ?z_range ?z_str ?z_enumerate ?z_list ?z_reversed ?z_set ?z_sorted ?z_bool ?z_isinstance ?z_repr) hmg
    (case n__law_state => k_is); (case n__law_draw => k_is); (case n__law_pick => k_is); (case n__law_word => k_is); (case n__law_expr => k_is); (case n__law_place => k_is); (case n__law_statement => k_is); (case n__law_body => k_is); (case n_find => k_is); (case n__inside => k_is); (case n__copied => k_is); (case n__copied_statement => k_is); (case n_statements => k_is); (case n__reached_by => k_is); (case n_reached => k_is); (case n_used => k_is); (case n__law_objects => k_is); (case n__law_program => k_is); (case n__law_names => k_is); (case n__law_grow => k_is); (case n__law_start => k_is); (case n__law_same => k_is); (case n_law => k_is); (case l__law_state => k_is); (case c__law_state => k_is); (case k__law_state => k_is); (case l__law_draw => k_is); (case c__law_draw => k_is); (case k__law_draw => k_is); (case l__law_pick => k_is); (case c__law_pick => k_is); (case k__law_pick => k_is); (case l__law_word => k_is); (case c__law_word => k_is); (case k__law_word => k_is); (case l__law_expr => k_is); (case c__law_expr => k_is); (case k__law_expr => k_is); (case l__law_place => k_is); (case c__law_place => k_is); (case k__law_place => k_is); (case l__law_statement => k_is); (case c__law_statement => k_is); (case k__law_statement => k_is); (case l__law_body => k_is); (case c__law_body => k_is); (case k__law_body => k_is); (case l_find => k_is); (case c_find => k_is); (case k_find => k_is); (case l__inside => k_is); (case c__inside => k_is); (case k__inside => k_is); (case l__copied => k_is); (case c__copied => k_is); (case k__copied => k_is); (case l__copied_statement => k_is); (case c__copied_statement => k_is); (case k__copied_statement => k_is); (case l_statements => k_is); (case c_statements => k_is); (case k_statements => k_is); (case l__reached_by => k_is); (case c__reached_by => k_is); (case k__reached_by => k_is); (case l_reached => k_is); (case c_reached => k_is); (case k_reached => k_is); (case l_used => k_is); (case c_used => k_is); (case k_used => k_is); (case l__law_objects => k_is); (case c__law_objects => k_is); (case k__law_objects => k_is); (case l__law_program => k_is); (case c__law_program => k_is); (case k__law_program => k_is); (case l__law_names => k_is); (case c__law_names => k_is); (case k__law_names => k_is); (case l__law_grow => k_is); (case c__law_grow => k_is); (case k__law_grow => k_is); (case l__law_start => k_is); (case c__law_start => k_is); (case k__law_start => k_is); (case l__law_same => k_is); (case c__law_same => k_is); (case k__law_same => k_is); (case l_law => k_is); (case c_law => k_is); (case k_law => k_is); (case z_int => k_is); (case z_abs => k_is); (case z_len => k_is); (case z_range => k_is); (case z_str => k_is); (case z_enumerate => k_is); (case z_list => k_is); (case z_reversed => k_is); (case z_set => k_is); (case z_sorted => k_is); (case z_bool => k_is); (case z_isinstance => k_is); (case z_repr => k_is)
