import PyProof.Rows.All
import Wide.All
import OpenK.AllK
import Wide.FinOn
import PyProof.RulesMatch
import HandS.Base
import HandS.Call
import HandS.Words
import HandS.IsInst
import HandS.ForExc
import HandS.Zip
import HandS.Walk
import HandS.Strs
import HandS.ForMost
import HandS.Evl
import HandS.SortInts
import HandS.List
import HandS.RaiseMore
import PyProof.InstEq
import HandS.TupSets
import PyProof.EqKinds
import PyProof.NeKinds
import HandS.DictComp
import HandS.More
import KE.DatumOrd
import HandS.SortKw
import HandS.SetKeys
import HandS.SetFor
import HandS.RevRange
import KE.KDictZip
import KE.KDictItemsList
import HandS.ListItems
import HandS.Style
import HandS.TupLe
import HandS.TryOnly
import PySem.Challenge.RW_deadbeat_k43_ceilings_of_objects
import HandS.Wide
import HandS.WideBits
import HandS.StrMore
import HandS.IntHex
import HandS.ReSub
import HandS.Codes
import HandS.SortRule
import HandS.Deep
import HandS.DeepEq
set_option Elab.async false
set_option linter.all false
set_option maxRecDepth 100000
namespace L2
open PySem PySem.Spec PyProof.Rows
/-- the cases of a match over texts: a written text or whatever is left, and what is done -/
def tCases (z : Str) : List (Option Str × TS) → TS
  | [] => fun D σ H => D.nx σ H
  | (none, t) :: _ => t
  | (some c, t) :: r => fun D σ H => if z = c then t D σ H else tCases z r D σ H
def tMatch (te : TE) (l : List (Option Str × TS)) : TS := fun D σ H => te σ H fun x H1 => ∃ z : Str, x = .str z ∧ tCases z l D σ H1
inductive PCs (X : Cx) : List MatchCase → List (Option Str × TS) → Prop
  | nil : PCs X [] []
  | rest {body : List Stmt} {t : TS} {p : Pos} {r : List MatchCase} : PSs X body t → PCs X (⟨.MatchAs none none p, none, body⟩ :: r) [(none, t)]
  | text {body : List Stmt} {t : TS} {c : Str} {j : Nat} {p p2 : Pos} {r : List MatchCase} {l : List (Option Str × TS)} : PSs X body t → PCs X r l →
      PCs X (⟨.MatchValue (.Constant (.str c) j p) p2, none, body⟩ :: r) ((some c, t) :: l)
theorem run_cases {X : Cx} {z : Str} {u : Value} (ru : RelV (.str z) u) : ∀ {cs : List MatchCase} {l : List (Option Str × TS)}, PCs X cs l → ∀ (first : Bool) (pins : List (Addr × Obj)) (s : Shared) (σ : St) (H : Hp) (D : Ends), Inv X pins σ H s → tCases z l D σ H →
    wpAny (model X.prog X.w) X.A (matchCases cs X.env u first) (SP X pins D) X.xe s
  | _, _, .nil, first, pins, s, σ, H, D, I, h => wpAny_matchCases_nil ⟨σ, H, I, h⟩
  | _, _, .rest hb, first, pins, s, σ, H, D, I, h => by
    refine wpAny_matchCases_cons (wpAny_matchPattern_Capture ?_)
    exact wpAny_assignInOrder_none (hb.run pins s σ H D I h)
  | _, _, .text (c := c) (l := l) hb hr, first, pins, s, σ, H, D, I, h => by
    refine wpAny_matchCases_cons (wpAny_matchPattern_Value ?_)
    refine thn ((pe_str (X := X) (x := c)).run pins s σ H (fun v H' => v = .str c ∧ H' = H) I ⟨rfl, rfl⟩) fun v s1 hh => ?_
    obtain ⟨x, H1, I1, rx, ex, eH⟩ := hh
    subst ex
    subst eH
    refine thn (op_eq pins s1 σ H1 (.str z) (.str c) u v (fun y H' => y = .bl (decide (V.str z = V.str c)) ∧ H' = H1) I1 ru rx ⟨rfl, rfl, rfl⟩) fun y s2 hh => ?_
    obtain ⟨x, H2, I2, rx2, ex, eH⟩ := hh
    subst ex
    subst eH
    cases rx2
    refine wpAny_truthy_bool ?_
    have h' : (if z = c then _ else _) := h
    by_cases e : z = c
    · rw [if_pos e] at h'
      rw [decide_eq_true (by rw [e])]
      exact wpAny_assignInOrder_none (hb.run pins s2 σ H2 D I2 h')
    · rw [if_neg e] at h'
      rw [decide_eq_false (fun q => e (by injection q))]
      exact run_cases ru hr false pins s2 σ H2 D I2 h'
theorem ps_match {X : Cx} {e : Expr} {te : TE} {cs : List MatchCase} {l : List (Option Str × TS)} {pos : Pos} (he : PE X e te) (hc : PCs X cs l) : PS X (.Match e cs pos) (tMatch te l) := by
  refine ⟨fun pins s σ H D I h => wpAny_Match ?_⟩
  refine thn (he.run pins s σ H _ I h) fun u s1 hh => ?_
  obtain ⟨x, H1, I1, rx, z, ez, hz⟩ := hh
  subst ez
  exact run_cases rx hc true pins s1 σ H1 D I1 hz
/-- a module's constant: an int, a text, an object -/
theorem pe_gi {X : Cx} {x : Str} {n : Int} {t : Tok} {pos : Pos} (hg : Gl X x) (hm : X.mg x = some (.int n t)) (hd : (x == ("__debug__" : Str)) = false := by decide) : PE X (.Name x pos) (tC (.int n)) := pe_glob hg hm ⟨_, rfl⟩ hd
theorem pe_gs {X : Cx} {x : Str} {z : Str} {t : Tok} {pos : Pos} (hg : Gl X x) (hm : X.mg x = some (.str z t)) (hd : (x == ("__debug__" : Str)) = false := by decide) : PE X (.Name x pos) (tC (.str z)) := pe_glob hg hm ⟨_, rfl⟩ hd
theorem pe_gr {X : Cx} {x : Str} {a : Addr} {pos : Pos} (hg : Gl X x) (hm : X.mg x = some (.ref a)) (hd : (x == ("__debug__" : Str)) = false := by decide) : PE X (.Name x pos) (tC (.ref a)) := pe_glob (v := .ref a) hg hm rfl hd
/-- a built-in type as a value -/
theorem pe_ty {X : Cx} {x : Str} {T : String} {pos : Pos} (hg : Gl X x) (hm : X.mg x = none) (hv : bootBuiltins x = some (.type T)) (hn : x ≠ "__name__" := by decide) (hd : (x == ("__debug__" : Str)) = false := by decide) : PE X (.Name x pos) (tC (.ty T)) :=
  ⟨fun _ s _ H _ I h => ld_blt I hg hm hv ⟨.ty T, H, I, rfl, h⟩ hn hd⟩
/-- isinstance of a plain value and a built-in type -/
theorem isi_int {K : PySem.W.Frag} {H : Hp} {Q : VK} {i : Int} (q : Q (.bl true) H) : rIsi K [.int i, .ty "int"] H Q := ⟨_, _, _, _, true, rfl, .ty _, .base (.int _), kit_ty (by decide +kernel), q⟩
theorem isi_int_bool {K : PySem.W.Frag} {H : Hp} {Q : VK} {i : Int} (q : Q (.bl false) H) : rIsi K [.int i, .ty "bool"] H Q := ⟨_, _, _, _, false, rfl, .ty _, .base (.int _), kit_ty (by decide +kernel), q⟩
theorem Same.none {H H' : Hp} (e : Same H H') {p : Addr} (h : H' p = Option.none) : H p = Option.none := Same.free e h
theorem same_new {H : Hp} {p : Addr} {o : HO} (h : H p = Option.none) : Same H (upd H p o) := fun b x e => by
  rw [upd_ne (ne_of_none e h)]
  exact e
theorem or_test {t u : TT} {σ : St} {H : Hp} {a b : Bool} {Q : Bool → Hp → Prop} (h1 : ∀ Q' : Bool → Hp → Prop, Q' a H → t σ H Q') (h2 : a = false → ∀ Q' : Bool → Hp → Prop, Q' b H → u σ H Q') (q : Q (a || b) H) : tOr t u σ H Q := by
  refine h1 _ ?_
  cases a with
  | true => exact iteT q
  | false => exact iteF (h2 rfl _ q)
theorem and_test {t u : TT} {σ : St} {H : Hp} {a b : Bool} {Q : Bool → Hp → Prop} (h1 : ∀ Q' : Bool → Hp → Prop, Q' a H → t σ H Q') (h2 : a = true → ∀ Q' : Bool → Hp → Prop, Q' b H → u σ H Q') (q : Q (a && b) H) : tAnd t u σ H Q := by
  refine h1 _ ?_
  cases a with
  | true => exact iteT (h2 rfl _ q)
  | false => exact iteF q
theorem if_or {t u : TT} {a b : Bool} {A B : TS} {D : Ends} {σ : St} {H : Hp} (h1 : ∀ Q' : Bool → Hp → Prop, Q' a H → t σ H Q') (h2 : a = false → ∀ Q' : Bool → Hp → Prop, Q' b H → u σ H Q') (q : if (a || b) = true then A D σ H else B D σ H) : tIfS (tOr t u) A B D σ H := or_test h1 h2 q
theorem if_and {t u : TT} {a b : Bool} {A B : TS} {D : Ends} {σ : St} {H : Hp} (h1 : ∀ Q' : Bool → Hp → Prop, Q' a H → t σ H Q') (h2 : a = true → ∀ Q' : Bool → Hp → Prop, Q' b H → u σ H Q') (q : if (a && b) = true then A D σ H else B D σ H) : tIfS (tAnd t u) A B D σ H := and_test h1 h2 q
theorem Same.off {H H1 : Hp} {D : Addr} {x : HO} (k : Same H H1) (n : H D = Option.none) : Same H (upd H1 D x) := fun b y e => by
  rw [upd_ne (ne_of_none e n)]
  exact k b y e
theorem Same.seqT {K : PySem.W.Frag} {H H' : Hp} {a : Addr} {xs : List V} (e : Same H H') (h : SqT K H a xs) : SqT K H' a xs := by
  rcases h with h | h
  · rcases h with h | ⟨o, h⟩
    · exact .inl (.inl (e _ _ h))
    · exact .inl (.inr ⟨o, e _ _ h⟩)
  · exact .inr h
/-- a def that may raise, called where it does not -/
theorem pass_no {X : Cx} : Passes (L2.CX X.prog X.w) X (fun _ _ _ => False) := fun _ _ _ _ _ _ _ c => by
  obtain ⟨_, _, _, _, _, _, _, _, _, _, _, _, z⟩ := c
  exact z.elim
def rListOf (K : PySem.W.Frag) : List V → Hp → VK → Prop := fun xs H Q => ∃ p ys, xs = [V.ref p] ∧ (SqL K H p ys ∨ SqT K H p ys) ∧ ∀ l, H l = Option.none → Q (.ref l) (upd H l (.lst ys))
theorem if_t {b : Bool} {A B : Prop} (h : b = true) (q : A) : if b = true then A else B := by
  rw [if_pos h]
  exact q
theorem if_f {b : Bool} {A B : Prop} (h : b = false) (q : B) : if b = true then A else B := by
  rw [if_neg (by rw [h]; exact Bool.noConfusion)]
  exact q
/-- a tuple of the written part, as it stands there -/
theorem sqT_lit {K : PySem.W.Frag} {p : Addr} {dd : Option Addr} {us : Array Value} {n : Nat} {sl : Array (Option Value)} {xs : List V} {H : Hp} (w : K.lookup p = some ⟨.type "tuple", dd, .seq us n, sl⟩) (y : Vals xs us.toList) (hl : xs.length ≤ sizeLine := by decide) : SqT K H p xs :=
  .inr ⟨_, us, n, w, rfl, rfl, Nat.le_trans (Nat.le_of_eq (by rw [← Array.length_toList]; exact (Paired.length y).symm)) hl, y⟩
end L2

set_option Elab.async false
set_option linter.all false
set_option maxRecDepth 100000
namespace Rd
open PySem PySem.Spec PyProof.Rows L2
variable {K : PySem.W.Frag} {σ : L2.St} {H : Hp} {D : Ends} {Q : VK} {ta tb te tc : TE} {t u c : TT} {ts tu : TS} {g : TG} {x y v : V} {vs : List V} {tr : TA} {a b : Option V} {r : L2.St}
theorem seq (h : ts { D with nx := tu D } σ H) : tSeq ts tu D σ H := h
theorem next (h : D.nx σ H) : tNext D σ H := h
theorem brk (h : D.bk σ H) : tBreak D σ H := h
theorem cont (h : D.ct σ H) : tCont D σ H := h
theorem asg (h : te σ H fun x H1 => g x σ H1 D.nx) : tAsg te g D σ H := h
theorem ret (h : te σ H D.rt) : tRet te D σ H := h
theorem retN (h : D.rt .non H) : tRetN D σ H := h
theorem drop (h : te σ H fun _ H1 => D.nx σ H1) : tDrop te D σ H := h
theorem ifs (h : c σ H fun b H1 => if b = true then ts D σ H1 else tu D σ H1) : tIfS c ts tu D σ H := h
theorem ife (h : t σ H fun b H1 => if b = true then ta σ H1 Q else tb σ H1 Q) : tIf t ta tb σ H Q := h
theorem test {Q : Bool → Hp → Prop} (h : te σ H fun x H1 => ∃ k, x = .bl k ∧ Q k H1) : tTest te σ H Q := h
theorem tb_ {Q : Bool → Hp → Prop} (h : te σ H fun x H1 => ∃ k, x = .bl k ∧ Q k H1) : tB te σ H Q := h
theorem bl {b : Bool} {Q : Bool → Hp → Prop} (h : Q b H) : ∃ k, V.bl b = .bl k ∧ Q k H := ⟨b, rfl, h⟩
theorem bl2 {b : Bool} {P : Bool → Prop} (h : P b) : ∃ k, V.bl b = .bl k ∧ P k := ⟨b, rfl, h⟩
theorem and_ {Q : Bool → Hp → Prop} (h : t σ H fun c H1 => if c = true then u σ H1 Q else Q false H1) : tAnd t u σ H Q := h
theorem or_ {Q : Bool → Hp → Prop} (h : t σ H fun c H1 => if c = true then Q true H1 else u σ H1 Q) : tOr t u σ H Q := h
theorem not_ {Q : Bool → Hp → Prop} (h : t σ H fun c H1 => Q (!c) H1) : tNot t σ H Q := h
theorem andV (h : ta σ H fun x H1 => ∃ c, x = .bl c ∧ if c = true then tb σ H1 Q else Q (.bl false) H1) : tAndV ta tb σ H Q := h
theorem orV (h : ta σ H fun x H1 => ∃ c, x = .bl c ∧ if c = true then Q (.bl true) H1 else tb σ H1 Q) : tOrV ta tb σ H Q := h
theorem notV (h : ta σ H fun x H1 => ∃ c, x = .bl c ∧ Q (.bl (!c)) H1) : tNotV ta σ H Q := h
theorem op {r : R2} (h : ta σ H fun x H1 => tb σ H1 fun y H2 => r x y H2 Q) : tOp r ta tb σ H Q := h
theorem un {r : V → Hp → VK → Prop} (h : ta σ H fun x H1 => r x H1 Q) : tUn r ta σ H Q := h
theorem I0 {f : Int → Int → V} {i j : Int} (h : Q (f i j) H) : rI0 f (.int i) (.int j) H Q := ⟨i, j, rfl, rfl, h⟩
theorem I {C : Int → Int → Prop} {f : Int → Int → V} {i j : Int} (c : C i j) (h : Q (f i j) H) : rI C f (.int i) (.int j) H Q := ⟨i, j, rfl, rfl, c, h⟩
theorem U {f : Int → V} {i : Int} (h : Q (f i) H) : rU f (.int i) H Q := ⟨i, rfl, h⟩
theorem ip {f : Int → Int → Int} {i j : Int} (h : Q (.int (f i j)) H) : ipI f (.int i) (.int j) H Q := ⟨i, j, rfl, rfl, h⟩
theorem eq (s : scal x y = true) (h : Q (.bl (decide (x = y))) H) : rEq x y H Q := ⟨s, h⟩
theorem ne (s : scal x y = true) (h : Q (.bl (!decide (x = y))) H) : rNe x y H Q := ⟨s, h⟩
theorem c_ (h : Q v H) : tC v σ H Q := h
theorem nil {Q : List V → Hp → Prop} (h : Q [] H) : tNil σ H Q := h
theorem cons {Q : List V → Hp → Prop} (h : ta σ H fun x H1 => tr σ H1 fun xs H2 => Q (x :: xs) H2) : tCons ta tr σ H Q := h
theorem tup (h : tr σ H fun xs H1 => xs.length ≤ sizeLine ∧ ∀ p, H1 p = none → Q (.ref p) (upd H1 p (.tup xs))) : tTup tr σ H Q := h
theorem lst (h : tr σ H fun xs H1 => xs.length ≤ sizeLine ∧ ∀ p, H1 p = none → Q (.ref p) (upd H1 p (.lst xs))) : tLst tr σ H Q := h
theorem newT {xs : List V} (s : xs.length ≤ sizeLine) (h : ∀ p, H p = none → Q (.ref p) (upd H p (.tup xs))) : xs.length ≤ sizeLine ∧ ∀ p, H p = none → Q (.ref p) (upd H p (.tup xs)) := ⟨s, h⟩
theorem newL {xs : List V} (s : xs.length ≤ sizeLine) (h : ∀ p, H p = none → Q (.ref p) (upd H p (.lst xs))) : xs.length ≤ sizeLine ∧ ∀ p, H p = none → Q (.ref p) (upd H p (.lst xs)) := ⟨s, h⟩
theorem szA {xs : List V} {A : Prop} (s : xs.length ≤ sizeLine) (h : A) : xs.length ≤ sizeLine ∧ A := ⟨s, h⟩
theorem call {sp : Sp} {dvs : List V} {E : XK} (h : tr σ H fun vs H1 => sp (vs ++ dvs) H1 Q E) : tCall sp dvs E tr σ H Q := h
theorem cb {f : List V → Hp → VK → Prop} (h : tr σ H fun vs H1 => f vs H1 Q) : tCB f tr σ H Q := h
theorem bm {T : String} {f : V → List V → Hp → VK → Prop} (h : te σ H fun x H1 => tyV K T x H1 ∧ tr σ H1 fun xs H2 => f x xs H2 Q) : tBM K T f te tr σ H Q := h
theorem bm0 {T : String} {f : V → List V → Hp → VK → Prop} (h : te σ H fun x H1 => tyV K T x H1 ∧ f x [] H1 Q) : tBM0 K T f te σ H Q := h
theorem tyL {p : Addr} {xs : List V} {A : Prop} (s : H p = some (.lst xs)) (h : A) : tyV K "list" (.ref p) H ∧ A := ⟨.inl ⟨rfl, _, SqL.of s⟩, h⟩
theorem tyLq {p : Addr} {xs : List V} {A : Prop} (s : SqL K H p xs) (h : A) : tyV K "list" (.ref p) H ∧ A := ⟨.inl ⟨rfl, _, s⟩, h⟩
theorem tyS {z : Str} {A : Prop} (h : A) : tyV K "str" (.str z) H ∧ A := ⟨rfl, h⟩
theorem app {l : Addr} {xs : List V} (h : H l = some (.lst xs)) (s : xs.length < sizeLine) (q : Q .non (upd H l (.lst (xs ++ [y])))) : rAppend (.ref l) [y] H Q := ⟨l, xs, y, rfl, rfl, h, s, q⟩
theorem sl {f : V → Option Int → Option Int → Hp → VK → Prop} {tl th : TO} (h : te σ H fun x H1 => tl σ H1 fun l H2 => th σ H2 fun u H3 => f x l u H3 Q) : L2.tSl f te tl th σ H Q := h
theorem nopart {Q : Option Int → Hp → Prop} (h : Q none H) : tNoPart σ H Q := h
theorem part {Q : Option Int → Hp → Prop} (h : te σ H fun x H1 => ∃ i, x = .int i ∧ Q (some i) H1) : tPart te σ H Q := h
theorem int1 {i : Int} {P : Int → Prop} (h : P i) : ∃ j, V.int i = .int j ∧ P j := ⟨i, rfl, h⟩
theorem ints1 {i : Int} {P : Int → Prop} (h : P i) : ∃ j, [V.int i] = [.int j] ∧ P j := ⟨i, rfl, h⟩
theorem ints2 {i j : Int} {P : Int → Int → Prop} (h : P i j) : ∃ a b, [V.int i, V.int j] = [.int a, .int b] ∧ P a b := ⟨i, j, rfl, h⟩
theorem ixLq {p : Addr} {xs : List V} {i : Int} (h : SqL K H p xs) (e : atI xs i = some v) (q : Q v H) : rIxL K (.ref p) (.int i) H Q := ⟨p, xs, i, v, rfl, rfl, h, e, q⟩
theorem ixL {p : Addr} {xs : List V} {i : Int} (h : H p = some (.lst xs)) (e : atI xs i = some v) (q : Q v H) : rIxL K (.ref p) (.int i) H Q := ⟨p, xs, i, v, rfl, rfl, SqL.of h, e, q⟩
theorem ixT {p : Addr} {xs : List V} {i : Int} (h : H p = some (.tup xs)) (e : atI xs i = some v) (q : Q v H) : rIxT K (.ref p) (.int i) H Q := ⟨p, xs, i, v, rfl, rfl, SqT.of h, e, q⟩
theorem ixTq {p : Addr} {xs : List V} {i : Int} (h : SqT K H p xs) (e : atI xs i = some v) (q : Q v H) : rIxT K (.ref p) (.int i) H Q := ⟨p, xs, i, v, rfl, rfl, h, e, q⟩
theorem gtup {p : Addr} {xs : List V} {n : Nat} {f : TGs} {Q : L2.St → Hp → Prop} (h : H p = some (.tup xs)) (l : xs.length = n) (q : f xs σ H Q) : gTup K n f (.ref p) σ H Q := ⟨p, xs, rfl, SqT.of h, l, q⟩
theorem gtupq {p : Addr} {xs : List V} {n : Nat} {f : TGs} {Q : L2.St → Hp → Prop} (h : SqT K H p xs) (l : xs.length = n) (q : f xs σ H Q) : gTup K n f (.ref p) σ H Q := ⟨p, xs, rfl, h, l, q⟩
theorem yes {Q : Bool → Hp → Prop} (h : Q true H) : tYes σ H Q := h
theorem gcons {f : TGs} {Q : L2.St → Hp → Prop} (q : g v σ H fun σ' H' => f vs σ' H' Q) : gCons g f (v :: vs) σ H Q := ⟨v, vs, rfl, q⟩
theorem gnil {Q : L2.St → Hp → Prop} (q : Q σ H) : gNil [] σ H Q := ⟨rfl, q⟩
theorem sub {to ti : TE} {f : TSet} {Q : L2.St → Hp → Prop} (h : to σ H fun o H1 => ti σ H1 fun i H2 => f o i v H2 fun H3 => Q σ H3) : gSub to ti f v σ H Q := h
theorem setL {l : Addr} {xs : List V} {j : Nat} {i : Int} {Q : Hp → Prop} (h : H l = some (.lst xs)) (e : ixN xs.length i = some j) (q : Q (upd H l (.lst (xs.set j v)))) : rSetL (.ref l) (.int i) v H Q := ⟨l, xs, i, j, rfl, rfl, h, e, q⟩
theorem isN (h : ta σ H fun x H1 => Q (.bl (decide (x = .non))) H1) : tIsN ta σ H Q := h
theorem rf {α : Type} {a : α} {A : Prop} (h : A) : a = a ∧ A := ⟨rfl, h⟩
theorem sz {n : Nat} (h : n ≤ 100000) : n ≤ sizeLine := Nat.le_trans h (by decide)
theorem szl {n : Nat} (h : n < 100000) : n < sizeLine := Nat.lt_of_lt_of_le h (by decide)
theorem chain {r r' : R2} (h : ta σ H fun x H1 => tb σ H1 fun y H2 => r x y H2 fun z H3 => ∃ k, z = .bl k ∧ if k = true then tc σ H3 fun w H4 => r' y w H4 Q else Q (.bl false) H3) : tChain r r' ta tb tc σ H Q := h

theorem v0 (h : Q v H) : tVar 0 (some v :: r) H Q := ⟨v, rfl, h⟩
theorem n0 {Q : L2.St → Hp → Prop} (h : Q (some v :: r) H) : gName 0 v (a :: r) H Q := h
theorem g0 {ti : TIp} (h : te (some x :: r) H fun y H1 => ti x y H1 fun z H2 => D.nx (some z :: r) H2) : tAug 0 te ti D (some x :: r) H := ⟨x, rfl, h⟩
theorem v1 {a0 : Option V} (h : Q v H) : tVar 1 (a0 :: some v :: r) H Q := ⟨v, rfl, h⟩
theorem n1 {a0 : Option V} {Q : L2.St → Hp → Prop} (h : Q (a0 :: some v :: r) H) : gName 1 v (a0 :: a :: r) H Q := h
theorem g1 {a0 : Option V} {ti : TIp} (h : te (a0 :: some x :: r) H fun y H1 => ti x y H1 fun z H2 => D.nx (a0 :: some z :: r) H2) : tAug 1 te ti D (a0 :: some x :: r) H := ⟨x, rfl, h⟩
theorem v2 {a0 a1 : Option V} (h : Q v H) : tVar 2 (a0 :: a1 :: some v :: r) H Q := ⟨v, rfl, h⟩
theorem n2 {a0 a1 : Option V} {Q : L2.St → Hp → Prop} (h : Q (a0 :: a1 :: some v :: r) H) : gName 2 v (a0 :: a1 :: a :: r) H Q := h
theorem g2 {a0 a1 : Option V} {ti : TIp} (h : te (a0 :: a1 :: some x :: r) H fun y H1 => ti x y H1 fun z H2 => D.nx (a0 :: a1 :: some z :: r) H2) : tAug 2 te ti D (a0 :: a1 :: some x :: r) H := ⟨x, rfl, h⟩
theorem v3 {a0 a1 a2 : Option V} (h : Q v H) : tVar 3 (a0 :: a1 :: a2 :: some v :: r) H Q := ⟨v, rfl, h⟩
theorem n3 {a0 a1 a2 : Option V} {Q : L2.St → Hp → Prop} (h : Q (a0 :: a1 :: a2 :: some v :: r) H) : gName 3 v (a0 :: a1 :: a2 :: a :: r) H Q := h
theorem g3 {a0 a1 a2 : Option V} {ti : TIp} (h : te (a0 :: a1 :: a2 :: some x :: r) H fun y H1 => ti x y H1 fun z H2 => D.nx (a0 :: a1 :: a2 :: some z :: r) H2) : tAug 3 te ti D (a0 :: a1 :: a2 :: some x :: r) H := ⟨x, rfl, h⟩
theorem v4 {a0 a1 a2 a3 : Option V} (h : Q v H) : tVar 4 (a0 :: a1 :: a2 :: a3 :: some v :: r) H Q := ⟨v, rfl, h⟩
theorem n4 {a0 a1 a2 a3 : Option V} {Q : L2.St → Hp → Prop} (h : Q (a0 :: a1 :: a2 :: a3 :: some v :: r) H) : gName 4 v (a0 :: a1 :: a2 :: a3 :: a :: r) H Q := h
theorem g4 {a0 a1 a2 a3 : Option V} {ti : TIp} (h : te (a0 :: a1 :: a2 :: a3 :: some x :: r) H fun y H1 => ti x y H1 fun z H2 => D.nx (a0 :: a1 :: a2 :: a3 :: some z :: r) H2) : tAug 4 te ti D (a0 :: a1 :: a2 :: a3 :: some x :: r) H := ⟨x, rfl, h⟩
theorem v5 {a0 a1 a2 a3 a4 : Option V} (h : Q v H) : tVar 5 (a0 :: a1 :: a2 :: a3 :: a4 :: some v :: r) H Q := ⟨v, rfl, h⟩
theorem n5 {a0 a1 a2 a3 a4 : Option V} {Q : L2.St → Hp → Prop} (h : Q (a0 :: a1 :: a2 :: a3 :: a4 :: some v :: r) H) : gName 5 v (a0 :: a1 :: a2 :: a3 :: a4 :: a :: r) H Q := h
theorem g5 {a0 a1 a2 a3 a4 : Option V} {ti : TIp} (h : te (a0 :: a1 :: a2 :: a3 :: a4 :: some x :: r) H fun y H1 => ti x y H1 fun z H2 => D.nx (a0 :: a1 :: a2 :: a3 :: a4 :: some z :: r) H2) : tAug 5 te ti D (a0 :: a1 :: a2 :: a3 :: a4 :: some x :: r) H := ⟨x, rfl, h⟩
theorem v6 {a0 a1 a2 a3 a4 a5 : Option V} (h : Q v H) : tVar 6 (a0 :: a1 :: a2 :: a3 :: a4 :: a5 :: some v :: r) H Q := ⟨v, rfl, h⟩
theorem n6 {a0 a1 a2 a3 a4 a5 : Option V} {Q : L2.St → Hp → Prop} (h : Q (a0 :: a1 :: a2 :: a3 :: a4 :: a5 :: some v :: r) H) : gName 6 v (a0 :: a1 :: a2 :: a3 :: a4 :: a5 :: a :: r) H Q := h
theorem g6 {a0 a1 a2 a3 a4 a5 : Option V} {ti : TIp} (h : te (a0 :: a1 :: a2 :: a3 :: a4 :: a5 :: some x :: r) H fun y H1 => ti x y H1 fun z H2 => D.nx (a0 :: a1 :: a2 :: a3 :: a4 :: a5 :: some z :: r) H2) : tAug 6 te ti D (a0 :: a1 :: a2 :: a3 :: a4 :: a5 :: some x :: r) H := ⟨x, rfl, h⟩
theorem v7 {a0 a1 a2 a3 a4 a5 a6 : Option V} (h : Q v H) : tVar 7 (a0 :: a1 :: a2 :: a3 :: a4 :: a5 :: a6 :: some v :: r) H Q := ⟨v, rfl, h⟩
theorem n7 {a0 a1 a2 a3 a4 a5 a6 : Option V} {Q : L2.St → Hp → Prop} (h : Q (a0 :: a1 :: a2 :: a3 :: a4 :: a5 :: a6 :: some v :: r) H) : gName 7 v (a0 :: a1 :: a2 :: a3 :: a4 :: a5 :: a6 :: a :: r) H Q := h
theorem g7 {a0 a1 a2 a3 a4 a5 a6 : Option V} {ti : TIp} (h : te (a0 :: a1 :: a2 :: a3 :: a4 :: a5 :: a6 :: some x :: r) H fun y H1 => ti x y H1 fun z H2 => D.nx (a0 :: a1 :: a2 :: a3 :: a4 :: a5 :: a6 :: some z :: r) H2) : tAug 7 te ti D (a0 :: a1 :: a2 :: a3 :: a4 :: a5 :: a6 :: some x :: r) H := ⟨x, rfl, h⟩
theorem v8 {a0 a1 a2 a3 a4 a5 a6 a7 : Option V} (h : Q v H) : tVar 8 (a0 :: a1 :: a2 :: a3 :: a4 :: a5 :: a6 :: a7 :: some v :: r) H Q := ⟨v, rfl, h⟩
theorem n8 {a0 a1 a2 a3 a4 a5 a6 a7 : Option V} {Q : L2.St → Hp → Prop} (h : Q (a0 :: a1 :: a2 :: a3 :: a4 :: a5 :: a6 :: a7 :: some v :: r) H) : gName 8 v (a0 :: a1 :: a2 :: a3 :: a4 :: a5 :: a6 :: a7 :: a :: r) H Q := h
theorem g8 {a0 a1 a2 a3 a4 a5 a6 a7 : Option V} {ti : TIp} (h : te (a0 :: a1 :: a2 :: a3 :: a4 :: a5 :: a6 :: a7 :: some x :: r) H fun y H1 => ti x y H1 fun z H2 => D.nx (a0 :: a1 :: a2 :: a3 :: a4 :: a5 :: a6 :: a7 :: some z :: r) H2) : tAug 8 te ti D (a0 :: a1 :: a2 :: a3 :: a4 :: a5 :: a6 :: a7 :: some x :: r) H := ⟨x, rfl, h⟩
theorem v9 {a0 a1 a2 a3 a4 a5 a6 a7 a8 : Option V} (h : Q v H) : tVar 9 (a0 :: a1 :: a2 :: a3 :: a4 :: a5 :: a6 :: a7 :: a8 :: some v :: r) H Q := ⟨v, rfl, h⟩
theorem n9 {a0 a1 a2 a3 a4 a5 a6 a7 a8 : Option V} {Q : L2.St → Hp → Prop} (h : Q (a0 :: a1 :: a2 :: a3 :: a4 :: a5 :: a6 :: a7 :: a8 :: some v :: r) H) : gName 9 v (a0 :: a1 :: a2 :: a3 :: a4 :: a5 :: a6 :: a7 :: a8 :: a :: r) H Q := h
theorem g9 {a0 a1 a2 a3 a4 a5 a6 a7 a8 : Option V} {ti : TIp} (h : te (a0 :: a1 :: a2 :: a3 :: a4 :: a5 :: a6 :: a7 :: a8 :: some x :: r) H fun y H1 => ti x y H1 fun z H2 => D.nx (a0 :: a1 :: a2 :: a3 :: a4 :: a5 :: a6 :: a7 :: a8 :: some z :: r) H2) : tAug 9 te ti D (a0 :: a1 :: a2 :: a3 :: a4 :: a5 :: a6 :: a7 :: a8 :: some x :: r) H := ⟨x, rfl, h⟩
theorem v10 {a0 a1 a2 a3 a4 a5 a6 a7 a8 a9 : Option V} (h : Q v H) : tVar 10 (a0 :: a1 :: a2 :: a3 :: a4 :: a5 :: a6 :: a7 :: a8 :: a9 :: some v :: r) H Q := ⟨v, rfl, h⟩
theorem n10 {a0 a1 a2 a3 a4 a5 a6 a7 a8 a9 : Option V} {Q : L2.St → Hp → Prop} (h : Q (a0 :: a1 :: a2 :: a3 :: a4 :: a5 :: a6 :: a7 :: a8 :: a9 :: some v :: r) H) : gName 10 v (a0 :: a1 :: a2 :: a3 :: a4 :: a5 :: a6 :: a7 :: a8 :: a9 :: a :: r) H Q := h
theorem g10 {a0 a1 a2 a3 a4 a5 a6 a7 a8 a9 : Option V} {ti : TIp} (h : te (a0 :: a1 :: a2 :: a3 :: a4 :: a5 :: a6 :: a7 :: a8 :: a9 :: some x :: r) H fun y H1 => ti x y H1 fun z H2 => D.nx (a0 :: a1 :: a2 :: a3 :: a4 :: a5 :: a6 :: a7 :: a8 :: a9 :: some z :: r) H2) : tAug 10 te ti D (a0 :: a1 :: a2 :: a3 :: a4 :: a5 :: a6 :: a7 :: a8 :: a9 :: some x :: r) H := ⟨x, rfl, h⟩
theorem v11 {a0 a1 a2 a3 a4 a5 a6 a7 a8 a9 a10 : Option V} (h : Q v H) : tVar 11 (a0 :: a1 :: a2 :: a3 :: a4 :: a5 :: a6 :: a7 :: a8 :: a9 :: a10 :: some v :: r) H Q := ⟨v, rfl, h⟩
theorem n11 {a0 a1 a2 a3 a4 a5 a6 a7 a8 a9 a10 : Option V} {Q : L2.St → Hp → Prop} (h : Q (a0 :: a1 :: a2 :: a3 :: a4 :: a5 :: a6 :: a7 :: a8 :: a9 :: a10 :: some v :: r) H) : gName 11 v (a0 :: a1 :: a2 :: a3 :: a4 :: a5 :: a6 :: a7 :: a8 :: a9 :: a10 :: a :: r) H Q := h
theorem g11 {a0 a1 a2 a3 a4 a5 a6 a7 a8 a9 a10 : Option V} {ti : TIp} (h : te (a0 :: a1 :: a2 :: a3 :: a4 :: a5 :: a6 :: a7 :: a8 :: a9 :: a10 :: some x :: r) H fun y H1 => ti x y H1 fun z H2 => D.nx (a0 :: a1 :: a2 :: a3 :: a4 :: a5 :: a6 :: a7 :: a8 :: a9 :: a10 :: some z :: r) H2) : tAug 11 te ti D (a0 :: a1 :: a2 :: a3 :: a4 :: a5 :: a6 :: a7 :: a8 :: a9 :: a10 :: some x :: r) H := ⟨x, rfl, h⟩
theorem v12 {a0 a1 a2 a3 a4 a5 a6 a7 a8 a9 a10 a11 : Option V} (h : Q v H) : tVar 12 (a0 :: a1 :: a2 :: a3 :: a4 :: a5 :: a6 :: a7 :: a8 :: a9 :: a10 :: a11 :: some v :: r) H Q := ⟨v, rfl, h⟩
theorem n12 {a0 a1 a2 a3 a4 a5 a6 a7 a8 a9 a10 a11 : Option V} {Q : L2.St → Hp → Prop} (h : Q (a0 :: a1 :: a2 :: a3 :: a4 :: a5 :: a6 :: a7 :: a8 :: a9 :: a10 :: a11 :: some v :: r) H) : gName 12 v (a0 :: a1 :: a2 :: a3 :: a4 :: a5 :: a6 :: a7 :: a8 :: a9 :: a10 :: a11 :: a :: r) H Q := h
theorem g12 {a0 a1 a2 a3 a4 a5 a6 a7 a8 a9 a10 a11 : Option V} {ti : TIp} (h : te (a0 :: a1 :: a2 :: a3 :: a4 :: a5 :: a6 :: a7 :: a8 :: a9 :: a10 :: a11 :: some x :: r) H fun y H1 => ti x y H1 fun z H2 => D.nx (a0 :: a1 :: a2 :: a3 :: a4 :: a5 :: a6 :: a7 :: a8 :: a9 :: a10 :: a11 :: some z :: r) H2) : tAug 12 te ti D (a0 :: a1 :: a2 :: a3 :: a4 :: a5 :: a6 :: a7 :: a8 :: a9 :: a10 :: a11 :: some x :: r) H := ⟨x, rfl, h⟩
theorem v13 {a0 a1 a2 a3 a4 a5 a6 a7 a8 a9 a10 a11 a12 : Option V} (h : Q v H) : tVar 13 (a0 :: a1 :: a2 :: a3 :: a4 :: a5 :: a6 :: a7 :: a8 :: a9 :: a10 :: a11 :: a12 :: some v :: r) H Q := ⟨v, rfl, h⟩
theorem n13 {a0 a1 a2 a3 a4 a5 a6 a7 a8 a9 a10 a11 a12 : Option V} {Q : L2.St → Hp → Prop} (h : Q (a0 :: a1 :: a2 :: a3 :: a4 :: a5 :: a6 :: a7 :: a8 :: a9 :: a10 :: a11 :: a12 :: some v :: r) H) : gName 13 v (a0 :: a1 :: a2 :: a3 :: a4 :: a5 :: a6 :: a7 :: a8 :: a9 :: a10 :: a11 :: a12 :: a :: r) H Q := h
theorem g13 {a0 a1 a2 a3 a4 a5 a6 a7 a8 a9 a10 a11 a12 : Option V} {ti : TIp} (h : te (a0 :: a1 :: a2 :: a3 :: a4 :: a5 :: a6 :: a7 :: a8 :: a9 :: a10 :: a11 :: a12 :: some x :: r) H fun y H1 => ti x y H1 fun z H2 => D.nx (a0 :: a1 :: a2 :: a3 :: a4 :: a5 :: a6 :: a7 :: a8 :: a9 :: a10 :: a11 :: a12 :: some z :: r) H2) : tAug 13 te ti D (a0 :: a1 :: a2 :: a3 :: a4 :: a5 :: a6 :: a7 :: a8 :: a9 :: a10 :: a11 :: a12 :: some x :: r) H := ⟨x, rfl, h⟩
theorem v14 {a0 a1 a2 a3 a4 a5 a6 a7 a8 a9 a10 a11 a12 a13 : Option V} (h : Q v H) : tVar 14 (a0 :: a1 :: a2 :: a3 :: a4 :: a5 :: a6 :: a7 :: a8 :: a9 :: a10 :: a11 :: a12 :: a13 :: some v :: r) H Q := ⟨v, rfl, h⟩
theorem n14 {a0 a1 a2 a3 a4 a5 a6 a7 a8 a9 a10 a11 a12 a13 : Option V} {Q : L2.St → Hp → Prop} (h : Q (a0 :: a1 :: a2 :: a3 :: a4 :: a5 :: a6 :: a7 :: a8 :: a9 :: a10 :: a11 :: a12 :: a13 :: some v :: r) H) : gName 14 v (a0 :: a1 :: a2 :: a3 :: a4 :: a5 :: a6 :: a7 :: a8 :: a9 :: a10 :: a11 :: a12 :: a13 :: a :: r) H Q := h
theorem g14 {a0 a1 a2 a3 a4 a5 a6 a7 a8 a9 a10 a11 a12 a13 : Option V} {ti : TIp} (h : te (a0 :: a1 :: a2 :: a3 :: a4 :: a5 :: a6 :: a7 :: a8 :: a9 :: a10 :: a11 :: a12 :: a13 :: some x :: r) H fun y H1 => ti x y H1 fun z H2 => D.nx (a0 :: a1 :: a2 :: a3 :: a4 :: a5 :: a6 :: a7 :: a8 :: a9 :: a10 :: a11 :: a12 :: a13 :: some z :: r) H2) : tAug 14 te ti D (a0 :: a1 :: a2 :: a3 :: a4 :: a5 :: a6 :: a7 :: a8 :: a9 :: a10 :: a11 :: a12 :: a13 :: some x :: r) H := ⟨x, rfl, h⟩
theorem v15 {a0 a1 a2 a3 a4 a5 a6 a7 a8 a9 a10 a11 a12 a13 a14 : Option V} (h : Q v H) : tVar 15 (a0 :: a1 :: a2 :: a3 :: a4 :: a5 :: a6 :: a7 :: a8 :: a9 :: a10 :: a11 :: a12 :: a13 :: a14 :: some v :: r) H Q := ⟨v, rfl, h⟩
theorem n15 {a0 a1 a2 a3 a4 a5 a6 a7 a8 a9 a10 a11 a12 a13 a14 : Option V} {Q : L2.St → Hp → Prop} (h : Q (a0 :: a1 :: a2 :: a3 :: a4 :: a5 :: a6 :: a7 :: a8 :: a9 :: a10 :: a11 :: a12 :: a13 :: a14 :: some v :: r) H) : gName 15 v (a0 :: a1 :: a2 :: a3 :: a4 :: a5 :: a6 :: a7 :: a8 :: a9 :: a10 :: a11 :: a12 :: a13 :: a14 :: a :: r) H Q := h
theorem g15 {a0 a1 a2 a3 a4 a5 a6 a7 a8 a9 a10 a11 a12 a13 a14 : Option V} {ti : TIp} (h : te (a0 :: a1 :: a2 :: a3 :: a4 :: a5 :: a6 :: a7 :: a8 :: a9 :: a10 :: a11 :: a12 :: a13 :: a14 :: some x :: r) H fun y H1 => ti x y H1 fun z H2 => D.nx (a0 :: a1 :: a2 :: a3 :: a4 :: a5 :: a6 :: a7 :: a8 :: a9 :: a10 :: a11 :: a12 :: a13 :: a14 :: some z :: r) H2) : tAug 15 te ti D (a0 :: a1 :: a2 :: a3 :: a4 :: a5 :: a6 :: a7 :: a8 :: a9 :: a10 :: a11 :: a12 :: a13 :: a14 :: some x :: r) H := ⟨x, rfl, h⟩
theorem room65 {k : Nat} {A : Around} (r : Room k A) : A.units + 65 < cLine := by
  have := r.un
  omega
/-! ### iterators -/
def lcRest (g : TG) (tt : TT) (te : TE) (vs : List Nat) (σ : L2.St) (Q : VK) (J : It) (H1 : Hp) : Prop := ∀ D, H1 D = none → ∃ W : Nat → Nat → Hp → Prop, (∃ m, W 0 m (upd H1 D (.lst []))) ∧ ∀ i m H, W i m H →
  (J.stop i H ∧ Q (.ref D) H) ∨ (J.go i H ∧ ∃ Nx : Hp → Prop, (∀ H', Nx H' → ∃ m', m' < m ∧ W (i + 1) m' H') ∧ ∀ x H', J.yld i H x H' → g x (wipe σ vs) H' fun σ2 H2 => wipe σ2 vs = wipe σ vs ∧ tt σ2 H2 fun b H3 =>
    if b = true then te σ2 H3 fun y H4 => ∃ acc, H4 D = some (.lst acc) ∧ acc.length < sizeLine ∧ Nx (upd H4 D (.lst (acc ++ [y]))) else Nx H3)
theorem lc {wi : TI} {tt : TT} {ws : List Nat} (h : wi σ H (lcRest g tt te ws σ Q)) : tLc wi g tt te ws σ H Q := h
def forRest (g : TG) (tb : TS) (D : Ends) (σ0 : L2.St) (J : It) (H1 : Hp) : Prop := ∃ W : Nat → Nat → L2.St → Hp → Prop, (∃ m, W 0 m σ0 H1) ∧ ∀ i m σ H, W i m σ H →
  (J.stop i H ∧ D.nx σ H) ∨ (J.go i H ∧ ∃ N : L2.St → Hp → Prop, (∀ σ' H', N σ' H' → ∃ m', m' < m ∧ W (i + 1) m' σ' H') ∧ ∀ x H', J.yld i H x H' → g x σ H' fun σ2 H2 => tb { D with nx := N, ct := N, bk := D.nx } σ2 H2)
theorem for_ {wi : TI} {tb : TS} (h : wi σ H (forRest g tb D σ)) : tFor wi g tb D σ H := h
variable {R : It → Hp → Prop}
theorem ilist (h : te σ H fun x H1 => ∃ a, x = .ref a ∧ (∃ xs, SqL K H1 a xs) ∧ R (Itl K a) H1) : iList K te σ H R := h
theorem itup (h : te σ H fun x H1 => ∃ a, x = .ref a ∧ (∃ xs, SqT K H1 a xs) ∧ R (Itt K a) H1) : iTup K te σ H R := h
theorem irng1 (h : tr σ H fun vs H1 => ∃ j : Int, vs = [.int j] ∧ -(2 ^ 62) ≤ j ∧ j < 2 ^ 62 ∧ R (Itr 0 j.toNat) H1) : iRng1 tr σ H R := h
theorem irng2 (h : tr σ H fun vs H1 => ∃ i j : Int, vs = [.int i, .int j] ∧ (-(2 ^ 62) ≤ i ∧ i < 2 ^ 62 ∧ -(2 ^ 62) ≤ j ∧ j < 2 ^ 62) ∧ R (Itr i (j - i).toNat) H1) : iRng2 tr σ H R := h
theorem ienum (h : tr σ H fun vs H1 => ∃ a xs, vs = [.ref a] ∧ SqL K H1 a xs ∧ R (Ite K a) H1) : iEnum K tr σ H R := h
theorem istr (h : te σ H fun v H1 => ∃ x, v = .str x ∧ R (Its x) H1) : iStr te σ H R := h
theorem refA {a : Addr} {P : Addr → Prop} (h : P a) : ∃ b, V.ref a = .ref b ∧ P b := ⟨a, rfl, h⟩
theorem strA {a : Str} {P : Str → Prop} (h : P a) : ∃ b, V.str a = .str b ∧ P b := ⟨a, rfl, h⟩
theorem sqA {l : Addr} {xs : List V} {A : Prop} (h : H l = some (.lst xs)) (q : A) : (∃ xs, SqL K H l xs) ∧ A := ⟨⟨_, SqL.of h⟩, q⟩
theorem sqAq {l : Addr} {xs : List V} {A : Prop} (h : SqL K H l xs) (q : A) : (∃ xs, SqL K H l xs) ∧ A := ⟨⟨_, h⟩, q⟩
theorem stA {l : Addr} {xs : List V} {A : Prop} (h : H l = some (.tup xs)) (q : A) : (∃ xs, SqT K H l xs) ∧ A := ⟨⟨_, SqT.of h⟩, q⟩
theorem stAq {l : Addr} {xs : List V} {A : Prop} (h : SqT K H l xs) (q : A) : (∃ xs, SqT K H l xs) ∧ A := ⟨⟨_, h⟩, q⟩
theorem enA {l : Addr} {xs : List V} {P : Addr → Prop} (h : H l = some (.lst xs)) (q : P l) : ∃ a ys, [V.ref l] = [.ref a] ∧ SqL K H a ys ∧ P a := ⟨l, xs, rfl, SqL.of h, q⟩
theorem enAq {l : Addr} {xs : List V} {P : Addr → Prop} (h : SqL K H l xs) (q : P l) : ∃ a ys, [V.ref l] = [.ref a] ∧ SqL K H a ys ∧ P a := ⟨l, xs, rfl, h, q⟩
theorem lenL {l : Addr} {xs : List V} {P : List V → Prop} (h : H l = some (.lst xs)) (q : P xs) : ∃ p ys, [V.ref l] = [.ref p] ∧ (SqL K H p ys ∨ SqT K H p ys) ∧ P ys := ⟨l, xs, rfl, .inl (SqL.of h), q⟩
theorem lenLq {l : Addr} {xs : List V} {P : List V → Prop} (h : SqL K H l xs) (q : P xs) : ∃ p ys, [V.ref l] = [.ref p] ∧ (SqL K H p ys ∨ SqT K H p ys) ∧ P ys := ⟨l, xs, rfl, .inl h, q⟩
theorem lenTq {l : Addr} {xs : List V} {P : List V → Prop} (h : SqT K H l xs) (q : P xs) : ∃ p ys, [V.ref l] = [.ref p] ∧ (SqL K H p ys ∨ SqT K H p ys) ∧ P ys := ⟨l, xs, rfl, .inr h, q⟩
theorem lenT {l : Addr} {xs : List V} {P : List V → Prop} (h : H l = some (.tup xs)) (q : P xs) : ∃ p ys, [V.ref l] = [.ref p] ∧ (SqL K H p ys ∨ SqT K H p ys) ∧ P ys := ⟨l, xs, rfl, .inr (SqT.of h), q⟩
/-! ### comprehensions: each element by a relation -/
def But (D : Addr) (H H' : Hp) : Prop := ∀ b o, b ≠ D → H b = some o → H' b = some o
theorem But.refl {D : Addr} : But D H H := fun _ _ _ h => h
theorem But.trans {D : Addr} {H H1 H2 : Hp} (a : But D H H1) (b : But D H1 H2) : But D H H2 := fun x o n h => b x o n (a x o n h)
theorem But.same {D : Addr} {H H1 : Hp} (a : Same H H1) : But D H H1 := fun x o _ h => a x o h
theorem But.at_ {D : Addr} {o : HO} : But D H (upd H D o) := fun x u n h => by rw [upd_ne n]; exact h
theorem But.to {D : Addr} {H H1 : Hp} (a : But D H H1) (n : H D = none) : Same H H1 := fun x o h => a x o (fun z => by rw [z, n] at h; cases h) h
theorem lc_rel {J : It} {n : Nat} {G : Hp → Prop} {Y : Nat → Hp → V → Hp → Prop} (w : Walk J n G Y) {g : TG} {te : TE} {vs : List Nat} {σ : L2.St} {H1 : Hp} {D : Addr} {Qd : Hp → Prop} (R : Nat → V → Hp → Prop)
    (nD : H1 D = none) (hn : n ≤ 100000) (mono : ∀ i v H H', R i v H → But D H H' → R i v H') (hG : ∀ H, But D H1 H → G H)
    (hs : ∀ i x H H' (Kt : VK), i < n → But D H1 H → (∃ xs, H D = some (.lst xs)) → Y i H x H' → (∀ y H4, R i y H4 → Same H H4 → Kt y H4) → g x (wipe σ vs) H' fun σ2 H2 => wipe σ2 vs = wipe σ vs ∧ te σ2 H2 Kt)
    (hd : ∀ H ys, ys.length = n → (∀ i v, ys[i]? = some v → R i v H) → Same H1 H → H D = some (.lst ys) → Qd H) :
    ∃ W : Nat → Nat → Hp → Prop, (∃ m, W 0 m (upd H1 D (.lst []))) ∧ ∀ i m H, W i m H →
      (J.stop i H ∧ Qd H) ∨ (J.go i H ∧ ∃ Nx : Hp → Prop, (∀ H', Nx H' → ∃ m', m' < m ∧ W (i + 1) m' H') ∧ ∀ x H', J.yld i H x H' → g x (wipe σ vs) H' fun σ2 H2 => wipe σ2 vs = wipe σ vs ∧ tYes σ2 H2 fun b H3 =>
        if b = true then te σ2 H3 fun y H4 => ∃ acc, H4 D = some (.lst acc) ∧ acc.length < sizeLine ∧ Nx (upd H4 D (.lst (acc ++ [y]))) else Nx H3) := by
  refine lc_it w (fun i H => ∃ ys, ys.length = i ∧ (∀ i v, ys[i]? = some v → R i v H) ∧ But D H1 H ∧ H D = some (.lst ys)) ⟨[], rfl, fun i v h => by simp at h, But.at_, upd_same⟩ (fun i H _ h => ?_) (fun i x H H' hi h y => ?_) (fun H h => ?_)
  · obtain ⟨_, _, _, b, _⟩ := h
    exact hG H b
  · obtain ⟨ys, hl, hr, b, hD⟩ := h
    refine hs i x H H' _ hi b ⟨_, hD⟩ y fun v H4 r sm => ?_
    refine ⟨ys, sm _ _ hD, szl (by omega), ys ++ [v], by simp [hl], fun j u hj => ?_, (b.trans (But.same sm)).trans But.at_, upd_same⟩
    by_cases hj2 : j < ys.length
    · rw [List.getElem?_append_left hj2] at hj
      exact mono _ _ _ _ (hr j u hj) ((But.same sm).trans But.at_)
    · have e : j = ys.length := by
        have := (List.getElem?_eq_some_iff.mp hj).1
        simp at this; omega
      subst e
      rw [List.getElem?_append_right (Nat.le_refl _)] at hj
      simp at hj
      subst hj
      rw [hl]
      exact mono _ _ _ _ r But.at_
  · obtain ⟨ys, hl, hr, b, hD⟩ := h
    exact hd H ys hl hr (b.to nD) hD
/-! ### tests, ints in lists -/
theorem ifD {p : Prop} [Decidable p] {A B : Prop} (h1 : p → A) (h2 : ¬ p → B) : if decide p = true then A else B := by
  by_cases h : p
  · rw [decide_eq_true h, if_pos rfl]; exact h1 h
  · rw [decide_eq_false h, if_neg Bool.false_ne_true]; exact h2 h
theorem ifN {p : Prop} [Decidable p] {A B : Prop} (h1 : ¬ p → A) (h2 : p → B) : if (!decide p) = true then A else B := by
  by_cases h : p
  · rw [decide_eq_true h, if_neg (by decide)]; exact h2 h
  · rw [decide_eq_false h, if_pos (by decide)]; exact h1 h
theorem ifT {A B : Prop} (h : A) : if true = true then A else B := by rw [if_pos rfl]; exact h
theorem ifF {A B : Prop} (h : B) : if false = true then A else B := by rw [if_neg Bool.false_ne_true]; exact h
theorem ifB {b : Bool} {A B : Prop} (h1 : b = true → A) (h2 : b = false → B) : if b = true then A else B := by
  cases b with
  | true => exact ifT (h1 rfl)
  | false => exact ifF (h2 rfl)
theorem ifNB {b : Bool} {A B : Prop} (h1 : b = false → A) (h2 : b = true → B) : if (!b) = true then A else B := by
  cases b with
  | true => exact ifF (h2 rfl)
  | false => exact ifT (h1 rfl)
theorem flat_ints (ns : List Int) : (ns.map V.int).all flatV = true := by
  rw [List.all_eq_true]
  intro x hx
  obtain ⟨i, _, rfl⟩ := List.mem_map.mp hx
  rfl
theorem flat_strs (ns : List Str) : (ns.map V.str).all flatV = true := by
  rw [List.all_eq_true]
  intro x hx
  obtain ⟨i, _, rfl⟩ := List.mem_map.mp hx
  rfl
theorem eqV_ints (a b : Int) : eqV (.int a) (.int b) = decide (a = b) := by
  by_cases h : a = b <;> simp [eqV, h]
theorem inV_ints (x : Int) (r : List Int) : inV (.int x) (r.map V.int) = decide (x ∈ r) := by
  unfold inV
  rw [List.any_map]
  by_cases h : x ∈ r
  · rw [decide_eq_true h, List.any_eq_true]
    exact ⟨x, h, beq_self_eq_true x⟩
  · rw [decide_eq_false h, List.any_eq_false]
    intro y hy e
    have e2 : (y == x) = true := e
    exact h (by rw [← eq_of_beq e2]; exact hy)
theorem first_at (ns : List Int) (n : Int) (h : n ∈ ns) : ∃ j : Nat, ns[j]? = some n ∧ ∀ i, i < j → ns[i]? ≠ some n := by
  induction ns with
  | nil => simp at h
  | cons a r ih =>
    by_cases e : a = n
    · exact ⟨0, by simp [e], fun i hi => absurd hi (Nat.not_lt_zero _)⟩
    · obtain ⟨j, h1, h2⟩ := ih ((List.mem_cons.mp h).resolve_left fun z => e z.symm)
      refine ⟨j + 1, by simpa using h1, fun i hi => ?_⟩
      cases i with
      | zero => simp [e]
      | succ i => simpa using h2 i (by omega)
theorem inI {p : Addr} {ns : List Int} {n : Int} (h : H p = some (.lst (ns.map V.int))) (q : Q (.bl (decide (n ∈ ns))) H) : rIn K false (.int n) (.ref p) H Q :=
  ⟨p, _, rfl, .inl (SqL.of h), rfl, flat_ints _, by rw [inV_ints]; exact q⟩
theorem ninI {p : Addr} {ns : List Int} {n : Int} (h : H p = some (.lst (ns.map V.int))) (q : Q (.bl (!decide (n ∈ ns))) H) : rIn K true (.int n) (.ref p) H Q :=
  ⟨p, _, rfl, .inl (SqL.of h), rfl, flat_ints _, by rw [inV_ints]; exact q⟩
theorem idxI {a : Addr} {ns : List Int} {n : Int} {j : Nat} (h : H a = some (.lst (ns.map V.int))) (hj : ns[j]? = some n) (hf : ∀ i, i < j → ns[i]? ≠ some n) (q : Q (.int (j : Nat)) H) : rIndex K (.ref a) [.int n] H Q :=
  ⟨a, _, _, j, .int n, rfl, rfl, SqL.of h, rfl, flat_ints _, by rw [List.getElem?_map, hj]; rfl, by rw [eqV_ints, decide_eq_true rfl], fun m z' hm hz => by
    rw [List.getElem?_map] at hz
    cases e : ns[m]? with
    | none => rw [e] at hz; cases hz
    | some x =>
      rw [e] at hz; cases hz
      rw [eqV_ints]
      exact decide_eq_false fun e2 => hf m hm (by rw [e, e2]), q⟩
theorem vals_map {n : Nat} {ns : List V} (f : Nat → Int) (ln : ns.length = n) (hn : ∀ (i : Nat) v, ns[i]? = some v → v = .int (f i)) : ns = ((List.range n).map f).map V.int := by
  refine List.ext_getElem? fun i => ?_
  rw [List.map_map, List.getElem?_map]
  by_cases hi : i < n
  · obtain ⟨v, hv⟩ : ∃ v, ns[i]? = some v := ⟨_, List.getElem?_eq_getElem (by omega)⟩
    rw [hv, List.getElem?_range hi, hn i v hv]
    rfl
  · rw [List.getElem?_eq_none (by omega), List.getElem?_eq_none (by rw [List.length_range]; omega)]
    rfl
theorem at_int {ns : List Int} {i : Int} {j : Nat} {n : Int} (e : i = (j : Int)) (h : ns[j]? = some n) : atI (ns.map V.int) i = some (.int n) := by
  subst e
  exact atI_nat (by rw [List.getElem?_map, h]; rfl)
theorem at_val {xs : List V} {i : Int} {j : Nat} (e : i = (j : Int)) (h : xs[j]? = some v) : atI xs i = some v := by
  subst e
  exact atI_nat h
theorem zr {i : Nat} {H H' : Hp} (y : YFn (fun (i : Nat) => V.int ((0 : Int) + (i : Int))) i H x H') : x = .int (i : Int) ∧ H' = H := by
  obtain ⟨a, b⟩ := y
  exact ⟨by rw [b]; show V.int (0 + (i : Int)) = _; rw [Int.zero_add], a⟩
/-! ### new objects, by what they leave -/
def NewT (Q : VK) (xs : List V) (H : Hp) : Prop := xs.length ≤ sizeLine ∧ ∀ p, H p = none → Q (.ref p) (upd H p (.tup xs))
def NewL (Q : VK) (xs : List V) (H : Hp) : Prop := xs.length ≤ sizeLine ∧ ∀ p, H p = none → Q (.ref p) (upd H p (.lst xs))
theorem tupN (h : tr σ H (NewT Q)) : tTup tr σ H Q := h
theorem lstN (h : tr σ H (NewL Q)) : tLst tr σ H Q := h
theorem nwT {xs : List V} (s : xs.length ≤ sizeLine) (h : ∀ p H', H p = none → Same H H' → H' p = some (.tup xs) → Q (.ref p) H') : NewT Q xs H := ⟨s, fun p np => h p _ np (same_new np) upd_same⟩
theorem nwL {xs : List V} (s : xs.length ≤ sizeLine) (h : ∀ p H', H p = none → Same H H' → H' p = some (.lst xs) → Q (.ref p) H') : NewL Q xs H := ⟨s, fun p np => h p _ np (same_new np) upd_same⟩
def ListOf (K : PySem.W.Frag) (Q : VK) (vs : List V) (H : Hp) : Prop := ∃ p ys, vs = [.ref p] ∧ (SqL K H p ys ∨ SqT K H p ys) ∧ ∀ l, H l = none → Q (.ref l) (upd H l (.lst ys))
theorem cbListOf (h : tr σ H (ListOf K Q)) : tCB (fun xs H Q => ∃ p ys, xs = [.ref p] ∧ (SqL K H p ys ∨ SqT K H p ys) ∧ ∀ l, H l = none → Q (.ref l) (upd H l (.lst ys))) tr σ H Q := h
theorem listOfq {a : Addr} {ys : List V} (s : SqL K H a ys) (h : ∀ p H', H p = none → Same H H' → H' p = some (.lst ys) → Q (.ref p) H') : ListOf K Q [.ref a] H := ⟨a, ys, rfl, .inl s, fun p np => h p _ np (same_new np) upd_same⟩
theorem listOf {a : Addr} {ys : List V} (s : H a = some (.lst ys)) (h : ∀ p H', H p = none → Same H H' → H' p = some (.lst ys) → Q (.ref p) H') : ListOf K Q [.ref a] H := listOfq (SqL.of s) h
def SlL (K : PySem.W.Frag) (x : V) (lo hi : Option Int) (Q : VK) (H : Hp) : Prop := ∃ a xs, x = .ref a ∧ SqL K H a xs ∧ ∀ p, H p = none → Q (.ref p) (upd H p (.lst (cutV xs lo hi)))
theorem slN {tl th : TO} (h : te σ H fun x H1 => tl σ H1 fun l H2 => th σ H2 fun u H3 => SlL K x l u Q H3) : L2.tSl (rSlL K) te tl th σ H Q := h
theorem slq {a : Addr} {xs : List V} {lo hi : Option Int} (s : SqL K H a xs) (h : ∀ p H', H p = none → Same H H' → H' p = some (.lst (cutV xs lo hi)) → Q (.ref p) H') : SlL K (.ref a) lo hi Q H := ⟨a, xs, rfl, s, fun p np => h p _ np (same_new np) upd_same⟩
theorem slo {a : Addr} {xs : List V} {lo hi : Option Int} (s : H a = some (.lst xs)) (h : ∀ p H', H p = none → Same H H' → H' p = some (.lst (cutV xs lo hi)) → Q (.ref p) H') : SlL K (.ref a) lo hi Q H := slq (SqL.of s) h
def SrtI (K : PySem.W.Frag) (Q : VK) (vs : List V) (H : Hp) : Prop := rSortedI K vs H Q
theorem cbSrtI (h : tr σ H (SrtI K Q)) : tCB (rSortedI K) tr σ H Q := h
theorem srtI {a : Addr} {ns : List Int} (s : SqL K H a (ns.map V.int)) (h : ∀ (ns' : List Int) p H', ns'.Perm ns → ns'.Pairwise (· ≤ ·) → H p = none → Same H H' → H' p = some (.lst (ns'.map V.int)) → Q (.ref p) H') : SrtI K Q [.ref a] H :=
  ⟨a, ns, rfl, s, fun ns' p e1 e2 np => h ns' p _ e1 e2 np (same_new np) upd_same⟩
theorem srtIo {a : Addr} {ns : List Int} (s : H a = some (.lst (ns.map V.int))) (h : ∀ (ns' : List Int) p H', ns'.Perm ns → ns'.Pairwise (· ≤ ·) → H p = none → Same H H' → H' p = some (.lst (ns'.map V.int)) → Q (.ref p) H') : SrtI K Q [.ref a] H := srtI (SqL.of s) h
theorem eqD {d e : PyData} (h1 : Dp K H x d) (h2 : Dp K H y e) (s1 : SeqAt.shaped d = true) (s2 : SeqAt.shaped e = true) (q : Q (.bl (PyData.eqv d e)) H) : rEqD K x y H Q := ⟨d, e, h1, h2, s1, s2, q⟩
theorem neD {d e : PyData} (h1 : Dp K H x d) (h2 : Dp K H y e) (s1 : SeqAt.shaped d = true) (s2 : SeqAt.shaped e = true) (q : Q (.bl (!PyData.eqv d e)) H) : rNeD K x y H Q := ⟨d, e, h1, h2, s1, s2, q⟩
/-! ### isinstance -/
theorem isi {T U : String} {b : Bool} (t : TyX K H x (.type T)) (k : kitB T U = some b) (q : Q (.bl b) H) : rIsi K [x, .ty U] H Q := ⟨x, .ty U, _, _, b, rfl, .ty _, t, kit_ty k, q⟩
theorem isi_ii {n : Int} (q : Q (.bl true) H) : rIsi K [.int n, .ty "int"] H Q := isi (.base (.int _)) (by decide +kernel) q
theorem isi_ib {n : Int} (q : Q (.bl false) H) : rIsi K [.int n, .ty "bool"] H Q := isi (.base (.int _)) (by decide +kernel) q
theorem isi_is {n : Int} (q : Q (.bl false) H) : rIsi K [.int n, .ty "str"] H Q := isi (.base (.int _)) (by decide +kernel) q
theorem isi_il {n : Int} (q : Q (.bl false) H) : rIsi K [.int n, .ty "list"] H Q := isi (.base (.int _)) (by decide +kernel) q
theorem isi_it {n : Int} (q : Q (.bl false) H) : rIsi K [.int n, .ty "tuple"] H Q := isi (.base (.int _)) (by decide +kernel) q
theorem isi_id {n : Int} (q : Q (.bl false) H) : rIsi K [.int n, .ty "dict"] H Q := isi (.base (.int _)) (by decide +kernel) q
theorem isi_bi {n : Bool} (q : Q (.bl true) H) : rIsi K [.bl n, .ty "int"] H Q := isi (.base (.bl _)) (by decide +kernel) q
theorem isi_bb {n : Bool} (q : Q (.bl true) H) : rIsi K [.bl n, .ty "bool"] H Q := isi (.base (.bl _)) (by decide +kernel) q
theorem isi_bs {n : Bool} (q : Q (.bl false) H) : rIsi K [.bl n, .ty "str"] H Q := isi (.base (.bl _)) (by decide +kernel) q
theorem isi_bl {n : Bool} (q : Q (.bl false) H) : rIsi K [.bl n, .ty "list"] H Q := isi (.base (.bl _)) (by decide +kernel) q
theorem isi_bt {n : Bool} (q : Q (.bl false) H) : rIsi K [.bl n, .ty "tuple"] H Q := isi (.base (.bl _)) (by decide +kernel) q
theorem isi_bd {n : Bool} (q : Q (.bl false) H) : rIsi K [.bl n, .ty "dict"] H Q := isi (.base (.bl _)) (by decide +kernel) q
theorem isi_si {n : Str} (q : Q (.bl false) H) : rIsi K [.str n, .ty "int"] H Q := isi (.base (.str _)) (by decide +kernel) q
theorem isi_sb {n : Str} (q : Q (.bl false) H) : rIsi K [.str n, .ty "bool"] H Q := isi (.base (.str _)) (by decide +kernel) q
theorem isi_ss {n : Str} (q : Q (.bl true) H) : rIsi K [.str n, .ty "str"] H Q := isi (.base (.str _)) (by decide +kernel) q
theorem isi_sl {n : Str} (q : Q (.bl false) H) : rIsi K [.str n, .ty "list"] H Q := isi (.base (.str _)) (by decide +kernel) q
theorem isi_st {n : Str} (q : Q (.bl false) H) : rIsi K [.str n, .ty "tuple"] H Q := isi (.base (.str _)) (by decide +kernel) q
theorem isi_sd {n : Str} (q : Q (.bl false) H) : rIsi K [.str n, .ty "dict"] H Q := isi (.base (.str _)) (by decide +kernel) q
theorem isi_li {n : Addr} {xs : List V} (h : H n = some (.lst xs)) (q : Q (.bl false) H) : rIsi K [.ref n, .ty "int"] H Q := isi (.base (.lst h)) (by decide +kernel) q
theorem isi_lb {n : Addr} {xs : List V} (h : H n = some (.lst xs)) (q : Q (.bl false) H) : rIsi K [.ref n, .ty "bool"] H Q := isi (.base (.lst h)) (by decide +kernel) q
theorem isi_ls {n : Addr} {xs : List V} (h : H n = some (.lst xs)) (q : Q (.bl false) H) : rIsi K [.ref n, .ty "str"] H Q := isi (.base (.lst h)) (by decide +kernel) q
theorem isi_ll {n : Addr} {xs : List V} (h : H n = some (.lst xs)) (q : Q (.bl true) H) : rIsi K [.ref n, .ty "list"] H Q := isi (.base (.lst h)) (by decide +kernel) q
theorem isi_lt {n : Addr} {xs : List V} (h : H n = some (.lst xs)) (q : Q (.bl false) H) : rIsi K [.ref n, .ty "tuple"] H Q := isi (.base (.lst h)) (by decide +kernel) q
theorem isi_ld {n : Addr} {xs : List V} (h : H n = some (.lst xs)) (q : Q (.bl false) H) : rIsi K [.ref n, .ty "dict"] H Q := isi (.base (.lst h)) (by decide +kernel) q
theorem isi_ti {n : Addr} {xs : List V} (h : H n = some (.tup xs)) (q : Q (.bl false) H) : rIsi K [.ref n, .ty "int"] H Q := isi (.base (.tup h)) (by decide +kernel) q
theorem isi_tb {n : Addr} {xs : List V} (h : H n = some (.tup xs)) (q : Q (.bl false) H) : rIsi K [.ref n, .ty "bool"] H Q := isi (.base (.tup h)) (by decide +kernel) q
theorem isi_ts {n : Addr} {xs : List V} (h : H n = some (.tup xs)) (q : Q (.bl false) H) : rIsi K [.ref n, .ty "str"] H Q := isi (.base (.tup h)) (by decide +kernel) q
theorem isi_tl {n : Addr} {xs : List V} (h : H n = some (.tup xs)) (q : Q (.bl false) H) : rIsi K [.ref n, .ty "list"] H Q := isi (.base (.tup h)) (by decide +kernel) q
theorem isi_tt {n : Addr} {xs : List V} (h : H n = some (.tup xs)) (q : Q (.bl true) H) : rIsi K [.ref n, .ty "tuple"] H Q := isi (.base (.tup h)) (by decide +kernel) q
theorem isi_td {n : Addr} {xs : List V} (h : H n = some (.tup xs)) (q : Q (.bl false) H) : rIsi K [.ref n, .ty "dict"] H Q := isi (.base (.tup h)) (by decide +kernel) q
theorem isi_ni  (q : Q (.bl false) H) : rIsi K [.non, .ty "int"] H Q := isi (.base .non) (by decide +kernel) q
theorem isi_nb  (q : Q (.bl false) H) : rIsi K [.non, .ty "bool"] H Q := isi (.base .non) (by decide +kernel) q
theorem isi_ns  (q : Q (.bl false) H) : rIsi K [.non, .ty "str"] H Q := isi (.base .non) (by decide +kernel) q
theorem isi_nl  (q : Q (.bl false) H) : rIsi K [.non, .ty "list"] H Q := isi (.base .non) (by decide +kernel) q
theorem isi_nt  (q : Q (.bl false) H) : rIsi K [.non, .ty "tuple"] H Q := isi (.base .non) (by decide +kernel) q
theorem isi_nd  (q : Q (.bl false) H) : rIsi K [.non, .ty "dict"] H Q := isi (.base .non) (by decide +kernel) q
/-! ### slices of lists -/
theorem cut_to (xs : List V) (n : Nat) : cutV xs none (some (n : Int)) = xs.take n := by
  unfold cutV
  rw [HT.sIx_nat, HT.sIx_none, List.drop_zero, Nat.sub_zero]
  rcases Nat.le_total n xs.length with h | h
  · rw [Nat.min_eq_left h]
  · rw [Nat.min_eq_right h, List.take_of_length_le (Nat.le_refl _), List.take_of_length_le h]
theorem cut_from (xs : List V) (n : Nat) : cutV xs (some (n : Int)) none = xs.drop n := by
  unfold cutV
  rw [HT.sIx_nat, HT.sIx_none]
  rcases Nat.le_total n xs.length with h | h
  · rw [Nat.min_eq_left h, List.take_of_length_le (by rw [List.length_drop]; omega)]
  · rw [Nat.min_eq_right h, List.drop_of_length_le h, List.drop_of_length_le (Nat.le_refl _), List.take_nil]
theorem eqv_self (d : PyData) (h : d.canLay0 = true) : PyData.eqv d d = true := PySem.SeqAt.eqv_refl d h
/-! ### ints of a list, filtered -/
theorem lc_fl {a : Addr} {ns : List Int} {g : TG} {tt : TT} {te : TE} {vs : List Nat} {σ : L2.St} {H1 : Hp} {C : Addr} {Qd : Hp → Prop} (p : Int → Bool) (hS : SqL K H1 a (ns.map V.int)) (nD : H1 C = none) (hn : ns.length ≤ 90000)
    (hs : ∀ (i : Nat) H (n : Int) (Kt : VK) (Kn : Hp → Prop), ns[i]? = some n → But C H1 H → (p n = true → Kt (.int n) H) → (p n = false → Kn H) → g (.int n) (wipe σ vs) H fun σ2 H2 => wipe σ2 vs = wipe σ vs ∧ tt σ2 H2 fun b H3 => if b = true then te σ2 H3 Kt else Kn H3)
    (hd : ∀ H, Same H1 H → H C = some (.lst ((ns.filter p).map V.int)) → Qd H) :
    ∃ W : Nat → Nat → Hp → Prop, (∃ m, W 0 m (upd H1 C (.lst []))) ∧ ∀ i m H, W i m H →
      ((Itl K a).stop i H ∧ Qd H) ∨ ((Itl K a).go i H ∧ ∃ Nx : Hp → Prop, (∀ H', Nx H' → ∃ m', m' < m ∧ W (i + 1) m' H') ∧ ∀ x H', (Itl K a).yld i H x H' → g x (wipe σ vs) H' fun σ2 H2 => wipe σ2 vs = wipe σ vs ∧ tt σ2 H2 fun b H3 =>
        if b = true then te σ2 H3 fun y H4 => ∃ acc, H4 C = some (.lst acc) ∧ acc.length < sizeLine ∧ Nx (upd H4 C (.lst (acc ++ [y]))) else Nx H3) := by
  refine lc_it (walk_list (xs := ns.map V.int)) (fun i H => But C H1 H ∧ H C = some (.lst (((ns.take i).filter p).map V.int))) ⟨But.at_, by simp [upd_same]⟩ (fun i H _ h => (h.1.to nD).seq hS) (fun i x H H' hi ⟨b, hD⟩ y => ?_) (fun H ⟨b, hD⟩ => ?_)
  · obtain ⟨rfl, hx⟩ := y
    rw [List.getElem?_map] at hx
    obtain ⟨n, hn2, rfl⟩ : ∃ n, ns[i]? = some n ∧ V.int n = x := by
      cases e : ns[i]? with
      | none => rw [e] at hx; cases hx
      | some n => rw [e] at hx; exact ⟨n, rfl, Option.some.inj hx⟩
    have tk : (ns.take (i + 1)).filter p = (ns.take i).filter p ++ [n].filter p := by
      rw [List.take_add_one, hn2, List.filter_append]; rfl
    refine hs i _ n _ _ hn2 b (fun hp => ?_) (fun hp => ?_)
    · refine ⟨_, hD, szl ?_, b.trans But.at_, ?_⟩
      · rw [List.length_map]
        have := List.length_filter_le p (ns.take i)
        rw [List.length_take] at this
        omega
      · rw [upd_same, tk, List.filter_cons_of_pos hp]
        simp
    · refine ⟨b, ?_⟩
      rw [tk, List.filter_cons_of_neg (by simp [hp])]
      simpa using hD
  · rw [List.length_map, List.take_of_length_le (Nat.le_refl _)] at hD
    exact hd H (b.to nD) hD
theorem intI {i : Int} {A : Int → Prop} {B : Prop} (h : A i) : (∃ j, [V.int i] = [.int j] ∧ A j) ∨ B := .inl ⟨i, rfl, h⟩
theorem pos_ne {i : Int} (h : 0 < i) : i ≠ 0 := by omega
theorem ifnT {A B : Prop} (h : B) : if (!true) = true then A else B := by rw [if_neg (by decide)]; exact h
theorem ifnF {A B : Prop} (h : A) : if (!false) = true then A else B := by rw [if_pos (by decide)]; exact h
theorem cbListOfR {tr : TA} (h : tr σ H (ListOf K Q)) : tCB (rListOf K) tr σ H Q := h
def CatL (Q : VK) (x y : V) (H : Hp) : Prop := ∃ l b xs zs, x = .ref l ∧ y = .ref b ∧ H l = some (.lst xs) ∧ H b = some (.lst zs) ∧ xs.length + zs.length ≤ sizeLine ∧ ∀ p, H p = none → Q (.ref p) (upd H p (.lst (xs ++ zs)))
theorem catI (h : CatL Q x y H) : rCat x y H Q := h
theorem cat {a b : Addr} {xs zs : List V} (h1 : H a = some (.lst xs)) (h2 : H b = some (.lst zs)) (s : xs.length + zs.length ≤ 100000) (h : ∀ p H', H p = none → Same H H' → H' p = some (.lst (xs ++ zs)) → Q (.ref p) H') : CatL Q (.ref a) (.ref b) H := ⟨a, b, xs, zs, rfl, rfl, h1, h2, sz s, fun p np => h p _ np (same_new np) upd_same⟩
theorem v16 {a0 a1 a2 a3 a4 a5 a6 a7 a8 a9 a10 a11 a12 a13 a14 a15 : Option V} (h : Q v H) : tVar 16 (a0 :: a1 :: a2 :: a3 :: a4 :: a5 :: a6 :: a7 :: a8 :: a9 :: a10 :: a11 :: a12 :: a13 :: a14 :: a15 :: some v :: r) H Q := ⟨v, rfl, h⟩
theorem n16 {a0 a1 a2 a3 a4 a5 a6 a7 a8 a9 a10 a11 a12 a13 a14 a15 : Option V} {Q : L2.St → Hp → Prop} (h : Q (a0 :: a1 :: a2 :: a3 :: a4 :: a5 :: a6 :: a7 :: a8 :: a9 :: a10 :: a11 :: a12 :: a13 :: a14 :: a15 :: some v :: r) H) : gName 16 v (a0 :: a1 :: a2 :: a3 :: a4 :: a5 :: a6 :: a7 :: a8 :: a9 :: a10 :: a11 :: a12 :: a13 :: a14 :: a15 :: a :: r) H Q := h
theorem g16 {a0 a1 a2 a3 a4 a5 a6 a7 a8 a9 a10 a11 a12 a13 a14 a15 : Option V} {ti : TIp} (h : te (a0 :: a1 :: a2 :: a3 :: a4 :: a5 :: a6 :: a7 :: a8 :: a9 :: a10 :: a11 :: a12 :: a13 :: a14 :: a15 :: some x :: r) H fun y H1 => ti x y H1 fun z H2 => D.nx (a0 :: a1 :: a2 :: a3 :: a4 :: a5 :: a6 :: a7 :: a8 :: a9 :: a10 :: a11 :: a12 :: a13 :: a14 :: a15 :: some z :: r) H2) : tAug 16 te ti D (a0 :: a1 :: a2 :: a3 :: a4 :: a5 :: a6 :: a7 :: a8 :: a9 :: a10 :: a11 :: a12 :: a13 :: a14 :: a15 :: some x :: r) H := ⟨x, rfl, h⟩
theorem v17 {a0 a1 a2 a3 a4 a5 a6 a7 a8 a9 a10 a11 a12 a13 a14 a15 a16 : Option V} (h : Q v H) : tVar 17 (a0 :: a1 :: a2 :: a3 :: a4 :: a5 :: a6 :: a7 :: a8 :: a9 :: a10 :: a11 :: a12 :: a13 :: a14 :: a15 :: a16 :: some v :: r) H Q := ⟨v, rfl, h⟩
theorem n17 {a0 a1 a2 a3 a4 a5 a6 a7 a8 a9 a10 a11 a12 a13 a14 a15 a16 : Option V} {Q : L2.St → Hp → Prop} (h : Q (a0 :: a1 :: a2 :: a3 :: a4 :: a5 :: a6 :: a7 :: a8 :: a9 :: a10 :: a11 :: a12 :: a13 :: a14 :: a15 :: a16 :: some v :: r) H) : gName 17 v (a0 :: a1 :: a2 :: a3 :: a4 :: a5 :: a6 :: a7 :: a8 :: a9 :: a10 :: a11 :: a12 :: a13 :: a14 :: a15 :: a16 :: a :: r) H Q := h
theorem g17 {a0 a1 a2 a3 a4 a5 a6 a7 a8 a9 a10 a11 a12 a13 a14 a15 a16 : Option V} {ti : TIp} (h : te (a0 :: a1 :: a2 :: a3 :: a4 :: a5 :: a6 :: a7 :: a8 :: a9 :: a10 :: a11 :: a12 :: a13 :: a14 :: a15 :: a16 :: some x :: r) H fun y H1 => ti x y H1 fun z H2 => D.nx (a0 :: a1 :: a2 :: a3 :: a4 :: a5 :: a6 :: a7 :: a8 :: a9 :: a10 :: a11 :: a12 :: a13 :: a14 :: a15 :: a16 :: some z :: r) H2) : tAug 17 te ti D (a0 :: a1 :: a2 :: a3 :: a4 :: a5 :: a6 :: a7 :: a8 :: a9 :: a10 :: a11 :: a12 :: a13 :: a14 :: a15 :: a16 :: some x :: r) H := ⟨x, rfl, h⟩
theorem v18 {a0 a1 a2 a3 a4 a5 a6 a7 a8 a9 a10 a11 a12 a13 a14 a15 a16 a17 : Option V} (h : Q v H) : tVar 18 (a0 :: a1 :: a2 :: a3 :: a4 :: a5 :: a6 :: a7 :: a8 :: a9 :: a10 :: a11 :: a12 :: a13 :: a14 :: a15 :: a16 :: a17 :: some v :: r) H Q := ⟨v, rfl, h⟩
theorem n18 {a0 a1 a2 a3 a4 a5 a6 a7 a8 a9 a10 a11 a12 a13 a14 a15 a16 a17 : Option V} {Q : L2.St → Hp → Prop} (h : Q (a0 :: a1 :: a2 :: a3 :: a4 :: a5 :: a6 :: a7 :: a8 :: a9 :: a10 :: a11 :: a12 :: a13 :: a14 :: a15 :: a16 :: a17 :: some v :: r) H) : gName 18 v (a0 :: a1 :: a2 :: a3 :: a4 :: a5 :: a6 :: a7 :: a8 :: a9 :: a10 :: a11 :: a12 :: a13 :: a14 :: a15 :: a16 :: a17 :: a :: r) H Q := h
theorem g18 {a0 a1 a2 a3 a4 a5 a6 a7 a8 a9 a10 a11 a12 a13 a14 a15 a16 a17 : Option V} {ti : TIp} (h : te (a0 :: a1 :: a2 :: a3 :: a4 :: a5 :: a6 :: a7 :: a8 :: a9 :: a10 :: a11 :: a12 :: a13 :: a14 :: a15 :: a16 :: a17 :: some x :: r) H fun y H1 => ti x y H1 fun z H2 => D.nx (a0 :: a1 :: a2 :: a3 :: a4 :: a5 :: a6 :: a7 :: a8 :: a9 :: a10 :: a11 :: a12 :: a13 :: a14 :: a15 :: a16 :: a17 :: some z :: r) H2) : tAug 18 te ti D (a0 :: a1 :: a2 :: a3 :: a4 :: a5 :: a6 :: a7 :: a8 :: a9 :: a10 :: a11 :: a12 :: a13 :: a14 :: a15 :: a16 :: a17 :: some x :: r) H := ⟨x, rfl, h⟩
theorem v19 {a0 a1 a2 a3 a4 a5 a6 a7 a8 a9 a10 a11 a12 a13 a14 a15 a16 a17 a18 : Option V} (h : Q v H) : tVar 19 (a0 :: a1 :: a2 :: a3 :: a4 :: a5 :: a6 :: a7 :: a8 :: a9 :: a10 :: a11 :: a12 :: a13 :: a14 :: a15 :: a16 :: a17 :: a18 :: some v :: r) H Q := ⟨v, rfl, h⟩
theorem n19 {a0 a1 a2 a3 a4 a5 a6 a7 a8 a9 a10 a11 a12 a13 a14 a15 a16 a17 a18 : Option V} {Q : L2.St → Hp → Prop} (h : Q (a0 :: a1 :: a2 :: a3 :: a4 :: a5 :: a6 :: a7 :: a8 :: a9 :: a10 :: a11 :: a12 :: a13 :: a14 :: a15 :: a16 :: a17 :: a18 :: some v :: r) H) : gName 19 v (a0 :: a1 :: a2 :: a3 :: a4 :: a5 :: a6 :: a7 :: a8 :: a9 :: a10 :: a11 :: a12 :: a13 :: a14 :: a15 :: a16 :: a17 :: a18 :: a :: r) H Q := h
theorem g19 {a0 a1 a2 a3 a4 a5 a6 a7 a8 a9 a10 a11 a12 a13 a14 a15 a16 a17 a18 : Option V} {ti : TIp} (h : te (a0 :: a1 :: a2 :: a3 :: a4 :: a5 :: a6 :: a7 :: a8 :: a9 :: a10 :: a11 :: a12 :: a13 :: a14 :: a15 :: a16 :: a17 :: a18 :: some x :: r) H fun y H1 => ti x y H1 fun z H2 => D.nx (a0 :: a1 :: a2 :: a3 :: a4 :: a5 :: a6 :: a7 :: a8 :: a9 :: a10 :: a11 :: a12 :: a13 :: a14 :: a15 :: a16 :: a17 :: a18 :: some z :: r) H2) : tAug 19 te ti D (a0 :: a1 :: a2 :: a3 :: a4 :: a5 :: a6 :: a7 :: a8 :: a9 :: a10 :: a11 :: a12 :: a13 :: a14 :: a15 :: a16 :: a17 :: a18 :: some x :: r) H := ⟨x, rfl, h⟩
theorem v20 {a0 a1 a2 a3 a4 a5 a6 a7 a8 a9 a10 a11 a12 a13 a14 a15 a16 a17 a18 a19 : Option V} (h : Q v H) : tVar 20 (a0 :: a1 :: a2 :: a3 :: a4 :: a5 :: a6 :: a7 :: a8 :: a9 :: a10 :: a11 :: a12 :: a13 :: a14 :: a15 :: a16 :: a17 :: a18 :: a19 :: some v :: r) H Q := ⟨v, rfl, h⟩
theorem n20 {a0 a1 a2 a3 a4 a5 a6 a7 a8 a9 a10 a11 a12 a13 a14 a15 a16 a17 a18 a19 : Option V} {Q : L2.St → Hp → Prop} (h : Q (a0 :: a1 :: a2 :: a3 :: a4 :: a5 :: a6 :: a7 :: a8 :: a9 :: a10 :: a11 :: a12 :: a13 :: a14 :: a15 :: a16 :: a17 :: a18 :: a19 :: some v :: r) H) : gName 20 v (a0 :: a1 :: a2 :: a3 :: a4 :: a5 :: a6 :: a7 :: a8 :: a9 :: a10 :: a11 :: a12 :: a13 :: a14 :: a15 :: a16 :: a17 :: a18 :: a19 :: a :: r) H Q := h
theorem g20 {a0 a1 a2 a3 a4 a5 a6 a7 a8 a9 a10 a11 a12 a13 a14 a15 a16 a17 a18 a19 : Option V} {ti : TIp} (h : te (a0 :: a1 :: a2 :: a3 :: a4 :: a5 :: a6 :: a7 :: a8 :: a9 :: a10 :: a11 :: a12 :: a13 :: a14 :: a15 :: a16 :: a17 :: a18 :: a19 :: some x :: r) H fun y H1 => ti x y H1 fun z H2 => D.nx (a0 :: a1 :: a2 :: a3 :: a4 :: a5 :: a6 :: a7 :: a8 :: a9 :: a10 :: a11 :: a12 :: a13 :: a14 :: a15 :: a16 :: a17 :: a18 :: a19 :: some z :: r) H2) : tAug 20 te ti D (a0 :: a1 :: a2 :: a3 :: a4 :: a5 :: a6 :: a7 :: a8 :: a9 :: a10 :: a11 :: a12 :: a13 :: a14 :: a15 :: a16 :: a17 :: a18 :: a19 :: some x :: r) H := ⟨x, rfl, h⟩
theorem v21 {a0 a1 a2 a3 a4 a5 a6 a7 a8 a9 a10 a11 a12 a13 a14 a15 a16 a17 a18 a19 a20 : Option V} (h : Q v H) : tVar 21 (a0 :: a1 :: a2 :: a3 :: a4 :: a5 :: a6 :: a7 :: a8 :: a9 :: a10 :: a11 :: a12 :: a13 :: a14 :: a15 :: a16 :: a17 :: a18 :: a19 :: a20 :: some v :: r) H Q := ⟨v, rfl, h⟩
theorem n21 {a0 a1 a2 a3 a4 a5 a6 a7 a8 a9 a10 a11 a12 a13 a14 a15 a16 a17 a18 a19 a20 : Option V} {Q : L2.St → Hp → Prop} (h : Q (a0 :: a1 :: a2 :: a3 :: a4 :: a5 :: a6 :: a7 :: a8 :: a9 :: a10 :: a11 :: a12 :: a13 :: a14 :: a15 :: a16 :: a17 :: a18 :: a19 :: a20 :: some v :: r) H) : gName 21 v (a0 :: a1 :: a2 :: a3 :: a4 :: a5 :: a6 :: a7 :: a8 :: a9 :: a10 :: a11 :: a12 :: a13 :: a14 :: a15 :: a16 :: a17 :: a18 :: a19 :: a20 :: a :: r) H Q := h
theorem g21 {a0 a1 a2 a3 a4 a5 a6 a7 a8 a9 a10 a11 a12 a13 a14 a15 a16 a17 a18 a19 a20 : Option V} {ti : TIp} (h : te (a0 :: a1 :: a2 :: a3 :: a4 :: a5 :: a6 :: a7 :: a8 :: a9 :: a10 :: a11 :: a12 :: a13 :: a14 :: a15 :: a16 :: a17 :: a18 :: a19 :: a20 :: some x :: r) H fun y H1 => ti x y H1 fun z H2 => D.nx (a0 :: a1 :: a2 :: a3 :: a4 :: a5 :: a6 :: a7 :: a8 :: a9 :: a10 :: a11 :: a12 :: a13 :: a14 :: a15 :: a16 :: a17 :: a18 :: a19 :: a20 :: some z :: r) H2) : tAug 21 te ti D (a0 :: a1 :: a2 :: a3 :: a4 :: a5 :: a6 :: a7 :: a8 :: a9 :: a10 :: a11 :: a12 :: a13 :: a14 :: a15 :: a16 :: a17 :: a18 :: a19 :: a20 :: some x :: r) H := ⟨x, rfl, h⟩
theorem v22 {a0 a1 a2 a3 a4 a5 a6 a7 a8 a9 a10 a11 a12 a13 a14 a15 a16 a17 a18 a19 a20 a21 : Option V} (h : Q v H) : tVar 22 (a0 :: a1 :: a2 :: a3 :: a4 :: a5 :: a6 :: a7 :: a8 :: a9 :: a10 :: a11 :: a12 :: a13 :: a14 :: a15 :: a16 :: a17 :: a18 :: a19 :: a20 :: a21 :: some v :: r) H Q := ⟨v, rfl, h⟩
theorem n22 {a0 a1 a2 a3 a4 a5 a6 a7 a8 a9 a10 a11 a12 a13 a14 a15 a16 a17 a18 a19 a20 a21 : Option V} {Q : L2.St → Hp → Prop} (h : Q (a0 :: a1 :: a2 :: a3 :: a4 :: a5 :: a6 :: a7 :: a8 :: a9 :: a10 :: a11 :: a12 :: a13 :: a14 :: a15 :: a16 :: a17 :: a18 :: a19 :: a20 :: a21 :: some v :: r) H) : gName 22 v (a0 :: a1 :: a2 :: a3 :: a4 :: a5 :: a6 :: a7 :: a8 :: a9 :: a10 :: a11 :: a12 :: a13 :: a14 :: a15 :: a16 :: a17 :: a18 :: a19 :: a20 :: a21 :: a :: r) H Q := h
theorem g22 {a0 a1 a2 a3 a4 a5 a6 a7 a8 a9 a10 a11 a12 a13 a14 a15 a16 a17 a18 a19 a20 a21 : Option V} {ti : TIp} (h : te (a0 :: a1 :: a2 :: a3 :: a4 :: a5 :: a6 :: a7 :: a8 :: a9 :: a10 :: a11 :: a12 :: a13 :: a14 :: a15 :: a16 :: a17 :: a18 :: a19 :: a20 :: a21 :: some x :: r) H fun y H1 => ti x y H1 fun z H2 => D.nx (a0 :: a1 :: a2 :: a3 :: a4 :: a5 :: a6 :: a7 :: a8 :: a9 :: a10 :: a11 :: a12 :: a13 :: a14 :: a15 :: a16 :: a17 :: a18 :: a19 :: a20 :: a21 :: some z :: r) H2) : tAug 22 te ti D (a0 :: a1 :: a2 :: a3 :: a4 :: a5 :: a6 :: a7 :: a8 :: a9 :: a10 :: a11 :: a12 :: a13 :: a14 :: a15 :: a16 :: a17 :: a18 :: a19 :: a20 :: a21 :: some x :: r) H := ⟨x, rfl, h⟩
theorem v23 {a0 a1 a2 a3 a4 a5 a6 a7 a8 a9 a10 a11 a12 a13 a14 a15 a16 a17 a18 a19 a20 a21 a22 : Option V} (h : Q v H) : tVar 23 (a0 :: a1 :: a2 :: a3 :: a4 :: a5 :: a6 :: a7 :: a8 :: a9 :: a10 :: a11 :: a12 :: a13 :: a14 :: a15 :: a16 :: a17 :: a18 :: a19 :: a20 :: a21 :: a22 :: some v :: r) H Q := ⟨v, rfl, h⟩
theorem n23 {a0 a1 a2 a3 a4 a5 a6 a7 a8 a9 a10 a11 a12 a13 a14 a15 a16 a17 a18 a19 a20 a21 a22 : Option V} {Q : L2.St → Hp → Prop} (h : Q (a0 :: a1 :: a2 :: a3 :: a4 :: a5 :: a6 :: a7 :: a8 :: a9 :: a10 :: a11 :: a12 :: a13 :: a14 :: a15 :: a16 :: a17 :: a18 :: a19 :: a20 :: a21 :: a22 :: some v :: r) H) : gName 23 v (a0 :: a1 :: a2 :: a3 :: a4 :: a5 :: a6 :: a7 :: a8 :: a9 :: a10 :: a11 :: a12 :: a13 :: a14 :: a15 :: a16 :: a17 :: a18 :: a19 :: a20 :: a21 :: a22 :: a :: r) H Q := h
theorem g23 {a0 a1 a2 a3 a4 a5 a6 a7 a8 a9 a10 a11 a12 a13 a14 a15 a16 a17 a18 a19 a20 a21 a22 : Option V} {ti : TIp} (h : te (a0 :: a1 :: a2 :: a3 :: a4 :: a5 :: a6 :: a7 :: a8 :: a9 :: a10 :: a11 :: a12 :: a13 :: a14 :: a15 :: a16 :: a17 :: a18 :: a19 :: a20 :: a21 :: a22 :: some x :: r) H fun y H1 => ti x y H1 fun z H2 => D.nx (a0 :: a1 :: a2 :: a3 :: a4 :: a5 :: a6 :: a7 :: a8 :: a9 :: a10 :: a11 :: a12 :: a13 :: a14 :: a15 :: a16 :: a17 :: a18 :: a19 :: a20 :: a21 :: a22 :: some z :: r) H2) : tAug 23 te ti D (a0 :: a1 :: a2 :: a3 :: a4 :: a5 :: a6 :: a7 :: a8 :: a9 :: a10 :: a11 :: a12 :: a13 :: a14 :: a15 :: a16 :: a17 :: a18 :: a19 :: a20 :: a21 :: a22 :: some x :: r) H := ⟨x, rfl, h⟩
theorem v24 {a0 a1 a2 a3 a4 a5 a6 a7 a8 a9 a10 a11 a12 a13 a14 a15 a16 a17 a18 a19 a20 a21 a22 a23 : Option V} (h : Q v H) : tVar 24 (a0 :: a1 :: a2 :: a3 :: a4 :: a5 :: a6 :: a7 :: a8 :: a9 :: a10 :: a11 :: a12 :: a13 :: a14 :: a15 :: a16 :: a17 :: a18 :: a19 :: a20 :: a21 :: a22 :: a23 :: some v :: r) H Q := ⟨v, rfl, h⟩
theorem n24 {a0 a1 a2 a3 a4 a5 a6 a7 a8 a9 a10 a11 a12 a13 a14 a15 a16 a17 a18 a19 a20 a21 a22 a23 : Option V} {Q : L2.St → Hp → Prop} (h : Q (a0 :: a1 :: a2 :: a3 :: a4 :: a5 :: a6 :: a7 :: a8 :: a9 :: a10 :: a11 :: a12 :: a13 :: a14 :: a15 :: a16 :: a17 :: a18 :: a19 :: a20 :: a21 :: a22 :: a23 :: some v :: r) H) : gName 24 v (a0 :: a1 :: a2 :: a3 :: a4 :: a5 :: a6 :: a7 :: a8 :: a9 :: a10 :: a11 :: a12 :: a13 :: a14 :: a15 :: a16 :: a17 :: a18 :: a19 :: a20 :: a21 :: a22 :: a23 :: a :: r) H Q := h
theorem g24 {a0 a1 a2 a3 a4 a5 a6 a7 a8 a9 a10 a11 a12 a13 a14 a15 a16 a17 a18 a19 a20 a21 a22 a23 : Option V} {ti : TIp} (h : te (a0 :: a1 :: a2 :: a3 :: a4 :: a5 :: a6 :: a7 :: a8 :: a9 :: a10 :: a11 :: a12 :: a13 :: a14 :: a15 :: a16 :: a17 :: a18 :: a19 :: a20 :: a21 :: a22 :: a23 :: some x :: r) H fun y H1 => ti x y H1 fun z H2 => D.nx (a0 :: a1 :: a2 :: a3 :: a4 :: a5 :: a6 :: a7 :: a8 :: a9 :: a10 :: a11 :: a12 :: a13 :: a14 :: a15 :: a16 :: a17 :: a18 :: a19 :: a20 :: a21 :: a22 :: a23 :: some z :: r) H2) : tAug 24 te ti D (a0 :: a1 :: a2 :: a3 :: a4 :: a5 :: a6 :: a7 :: a8 :: a9 :: a10 :: a11 :: a12 :: a13 :: a14 :: a15 :: a16 :: a17 :: a18 :: a19 :: a20 :: a21 :: a22 :: a23 :: some x :: r) H := ⟨x, rfl, h⟩
theorem v25 {a0 a1 a2 a3 a4 a5 a6 a7 a8 a9 a10 a11 a12 a13 a14 a15 a16 a17 a18 a19 a20 a21 a22 a23 a24 : Option V} (h : Q v H) : tVar 25 (a0 :: a1 :: a2 :: a3 :: a4 :: a5 :: a6 :: a7 :: a8 :: a9 :: a10 :: a11 :: a12 :: a13 :: a14 :: a15 :: a16 :: a17 :: a18 :: a19 :: a20 :: a21 :: a22 :: a23 :: a24 :: some v :: r) H Q := ⟨v, rfl, h⟩
theorem n25 {a0 a1 a2 a3 a4 a5 a6 a7 a8 a9 a10 a11 a12 a13 a14 a15 a16 a17 a18 a19 a20 a21 a22 a23 a24 : Option V} {Q : L2.St → Hp → Prop} (h : Q (a0 :: a1 :: a2 :: a3 :: a4 :: a5 :: a6 :: a7 :: a8 :: a9 :: a10 :: a11 :: a12 :: a13 :: a14 :: a15 :: a16 :: a17 :: a18 :: a19 :: a20 :: a21 :: a22 :: a23 :: a24 :: some v :: r) H) : gName 25 v (a0 :: a1 :: a2 :: a3 :: a4 :: a5 :: a6 :: a7 :: a8 :: a9 :: a10 :: a11 :: a12 :: a13 :: a14 :: a15 :: a16 :: a17 :: a18 :: a19 :: a20 :: a21 :: a22 :: a23 :: a24 :: a :: r) H Q := h
theorem g25 {a0 a1 a2 a3 a4 a5 a6 a7 a8 a9 a10 a11 a12 a13 a14 a15 a16 a17 a18 a19 a20 a21 a22 a23 a24 : Option V} {ti : TIp} (h : te (a0 :: a1 :: a2 :: a3 :: a4 :: a5 :: a6 :: a7 :: a8 :: a9 :: a10 :: a11 :: a12 :: a13 :: a14 :: a15 :: a16 :: a17 :: a18 :: a19 :: a20 :: a21 :: a22 :: a23 :: a24 :: some x :: r) H fun y H1 => ti x y H1 fun z H2 => D.nx (a0 :: a1 :: a2 :: a3 :: a4 :: a5 :: a6 :: a7 :: a8 :: a9 :: a10 :: a11 :: a12 :: a13 :: a14 :: a15 :: a16 :: a17 :: a18 :: a19 :: a20 :: a21 :: a22 :: a23 :: a24 :: some z :: r) H2) : tAug 25 te ti D (a0 :: a1 :: a2 :: a3 :: a4 :: a5 :: a6 :: a7 :: a8 :: a9 :: a10 :: a11 :: a12 :: a13 :: a14 :: a15 :: a16 :: a17 :: a18 :: a19 :: a20 :: a21 :: a22 :: a23 :: a24 :: some x :: r) H := ⟨x, rfl, h⟩
theorem v26 {a0 a1 a2 a3 a4 a5 a6 a7 a8 a9 a10 a11 a12 a13 a14 a15 a16 a17 a18 a19 a20 a21 a22 a23 a24 a25 : Option V} (h : Q v H) : tVar 26 (a0 :: a1 :: a2 :: a3 :: a4 :: a5 :: a6 :: a7 :: a8 :: a9 :: a10 :: a11 :: a12 :: a13 :: a14 :: a15 :: a16 :: a17 :: a18 :: a19 :: a20 :: a21 :: a22 :: a23 :: a24 :: a25 :: some v :: r) H Q := ⟨v, rfl, h⟩
theorem n26 {a0 a1 a2 a3 a4 a5 a6 a7 a8 a9 a10 a11 a12 a13 a14 a15 a16 a17 a18 a19 a20 a21 a22 a23 a24 a25 : Option V} {Q : L2.St → Hp → Prop} (h : Q (a0 :: a1 :: a2 :: a3 :: a4 :: a5 :: a6 :: a7 :: a8 :: a9 :: a10 :: a11 :: a12 :: a13 :: a14 :: a15 :: a16 :: a17 :: a18 :: a19 :: a20 :: a21 :: a22 :: a23 :: a24 :: a25 :: some v :: r) H) : gName 26 v (a0 :: a1 :: a2 :: a3 :: a4 :: a5 :: a6 :: a7 :: a8 :: a9 :: a10 :: a11 :: a12 :: a13 :: a14 :: a15 :: a16 :: a17 :: a18 :: a19 :: a20 :: a21 :: a22 :: a23 :: a24 :: a25 :: a :: r) H Q := h
theorem g26 {a0 a1 a2 a3 a4 a5 a6 a7 a8 a9 a10 a11 a12 a13 a14 a15 a16 a17 a18 a19 a20 a21 a22 a23 a24 a25 : Option V} {ti : TIp} (h : te (a0 :: a1 :: a2 :: a3 :: a4 :: a5 :: a6 :: a7 :: a8 :: a9 :: a10 :: a11 :: a12 :: a13 :: a14 :: a15 :: a16 :: a17 :: a18 :: a19 :: a20 :: a21 :: a22 :: a23 :: a24 :: a25 :: some x :: r) H fun y H1 => ti x y H1 fun z H2 => D.nx (a0 :: a1 :: a2 :: a3 :: a4 :: a5 :: a6 :: a7 :: a8 :: a9 :: a10 :: a11 :: a12 :: a13 :: a14 :: a15 :: a16 :: a17 :: a18 :: a19 :: a20 :: a21 :: a22 :: a23 :: a24 :: a25 :: some z :: r) H2) : tAug 26 te ti D (a0 :: a1 :: a2 :: a3 :: a4 :: a5 :: a6 :: a7 :: a8 :: a9 :: a10 :: a11 :: a12 :: a13 :: a14 :: a15 :: a16 :: a17 :: a18 :: a19 :: a20 :: a21 :: a22 :: a23 :: a24 :: a25 :: some x :: r) H := ⟨x, rfl, h⟩
theorem v27 {a0 a1 a2 a3 a4 a5 a6 a7 a8 a9 a10 a11 a12 a13 a14 a15 a16 a17 a18 a19 a20 a21 a22 a23 a24 a25 a26 : Option V} (h : Q v H) : tVar 27 (a0 :: a1 :: a2 :: a3 :: a4 :: a5 :: a6 :: a7 :: a8 :: a9 :: a10 :: a11 :: a12 :: a13 :: a14 :: a15 :: a16 :: a17 :: a18 :: a19 :: a20 :: a21 :: a22 :: a23 :: a24 :: a25 :: a26 :: some v :: r) H Q := ⟨v, rfl, h⟩
theorem n27 {a0 a1 a2 a3 a4 a5 a6 a7 a8 a9 a10 a11 a12 a13 a14 a15 a16 a17 a18 a19 a20 a21 a22 a23 a24 a25 a26 : Option V} {Q : L2.St → Hp → Prop} (h : Q (a0 :: a1 :: a2 :: a3 :: a4 :: a5 :: a6 :: a7 :: a8 :: a9 :: a10 :: a11 :: a12 :: a13 :: a14 :: a15 :: a16 :: a17 :: a18 :: a19 :: a20 :: a21 :: a22 :: a23 :: a24 :: a25 :: a26 :: some v :: r) H) : gName 27 v (a0 :: a1 :: a2 :: a3 :: a4 :: a5 :: a6 :: a7 :: a8 :: a9 :: a10 :: a11 :: a12 :: a13 :: a14 :: a15 :: a16 :: a17 :: a18 :: a19 :: a20 :: a21 :: a22 :: a23 :: a24 :: a25 :: a26 :: a :: r) H Q := h
theorem g27 {a0 a1 a2 a3 a4 a5 a6 a7 a8 a9 a10 a11 a12 a13 a14 a15 a16 a17 a18 a19 a20 a21 a22 a23 a24 a25 a26 : Option V} {ti : TIp} (h : te (a0 :: a1 :: a2 :: a3 :: a4 :: a5 :: a6 :: a7 :: a8 :: a9 :: a10 :: a11 :: a12 :: a13 :: a14 :: a15 :: a16 :: a17 :: a18 :: a19 :: a20 :: a21 :: a22 :: a23 :: a24 :: a25 :: a26 :: some x :: r) H fun y H1 => ti x y H1 fun z H2 => D.nx (a0 :: a1 :: a2 :: a3 :: a4 :: a5 :: a6 :: a7 :: a8 :: a9 :: a10 :: a11 :: a12 :: a13 :: a14 :: a15 :: a16 :: a17 :: a18 :: a19 :: a20 :: a21 :: a22 :: a23 :: a24 :: a25 :: a26 :: some z :: r) H2) : tAug 27 te ti D (a0 :: a1 :: a2 :: a3 :: a4 :: a5 :: a6 :: a7 :: a8 :: a9 :: a10 :: a11 :: a12 :: a13 :: a14 :: a15 :: a16 :: a17 :: a18 :: a19 :: a20 :: a21 :: a22 :: a23 :: a24 :: a25 :: a26 :: some x :: r) H := ⟨x, rfl, h⟩
end Rd

set_option Elab.async false
set_option linter.all false
set_option maxRecDepth 100000
namespace Rd
open PySem PySem.Spec PyProof.Rows L2
variable {K : PySem.W.Frag} {σ : L2.St} {H : Hp} {D : Ends} {Q : VK} {ta tb te tv : TE} {x y v : V} {tr : TA} {f m : Str} {C : Addr} {sp : Sp} {dvs : List V} {E : XK}
/-! ### objects of own classes -/
def FldG (K : PySem.W.Frag) (x : V) (f : Str) (Q : VK) (H : Hp) : Prop := ∃ a C dx fs v, x = .ref a ∧ H a = some (.ins C dx fs) ∧ Cls K C ∧ NoAttr K C f ∧ fs.lookup f = some v ∧ Q v H
theorem fld (h : te σ H fun x H1 => FldG K x f Q H1) : tFld K te f σ H Q := h
theorem fldI {a dx : Addr} {fs : List (Str × V)} (h : H a = some (.ins C dx fs)) (c : Cls K C) (n : NoAttr K C f) (e : fs.lookup f = some v) (q : Q v H) : FldG K (.ref a) f Q H := ⟨a, C, dx, fs, v, rfl, h, c, n, e, q⟩
def SfG (K : PySem.W.Frag) (x : V) (f : Str) (y : V) (D : Ends) (σ : L2.St) (H : Hp) : Prop := ∃ a C dx fs, x = .ref a ∧ H a = some (.ins C dx fs) ∧ Cls K C ∧ NoAttr K C f ∧ fs.length < 1000 ∧ D.nx σ (upd H a (.ins C dx (putF f y fs)))
theorem sfld (h : tv σ H fun y H1 => ta σ H1 fun x H2 => SfG K x f y D σ H2) : sFld K ta tv f D σ H := h
theorem sfldI {a dx : Addr} {fs : List (Str × V)} (h : H a = some (.ins C dx fs)) (c : Cls K C) (n : NoAttr K C f) (l : fs.length < 1000) (q : D.nx σ (upd H a (.ins C dx (putF f y fs)))) : SfG K (.ref a) f y D σ H := ⟨a, C, dx, fs, rfl, h, c, n, l, q⟩
def MtG (C : Addr) (m : Str) (sp : Sp) (dvs : List V) (E : XK) (t : TA) (σ : L2.St) (Q : VK) (x : V) (H : Hp) : Prop := ∃ a dx fs, x = .ref a ∧ H a = some (.ins C dx fs) ∧ fs.lookup m = none ∧ t σ H fun vs H2 => sp (x :: (vs ++ dvs)) H2 Q E
theorem meth (h : ta σ H fun x H1 => MtG C m sp dvs E tr σ Q x H1) : tMeth C m sp dvs E ta tr σ H Q := h
theorem methI {a dx : Addr} {fs : List (Str × V)} (h : H a = some (.ins C dx fs)) (n : fs.lookup m = none) (q : tr σ H fun vs H2 => sp (.ref a :: (vs ++ dvs)) H2 Q E) : MtG C m sp dvs E tr σ Q (.ref a) H := ⟨a, dx, fs, rfl, h, n, q⟩
def MkG (C : Addr) (sp : Sp) (dvs : List V) (E : XK) (Q : VK) (vs : List V) (H1 : Hp) : Prop := ∀ x dx, H1 x = none → H1 dx = none → dx ≠ x → sp (.ref x :: (vs ++ dvs)) (upd (upd H1 dx (.own x)) x (.ins C dx [])) (fun v H2 => v = .non ∧ Q (.ref x) H2) E
theorem make (h : tr σ H fun vs H1 => MkG C sp dvs E Q vs H1) : tMake C sp dvs E tr σ H Q := h
theorem popI {l : Addr} {xs : List V} (h : H l = some (.lst xs)) (e : xs[xs.length - 1]? = some y) (q : Q y (upd H l (.lst xs.dropLast))) : rPop (.ref l) [] H Q := ⟨l, xs, y, rfl, rfl, h, e, q⟩
theorem maxL {a : Addr} {ns : List Int} (h : H a = some (.lst (ns.map V.int))) (l : 0 < ns.length) (q : ∀ m, m ∈ ns → (∀ y, y ∈ ns → y ≤ m) → Q (.int m) H) : rMax K [.ref a] H Q := ⟨a, ns, rfl, SqL.of h, l, q⟩
theorem anyL {a : Addr} {bs : List Bool} (h : H a = some (.lst (bs.map V.bl))) (q : Q (.bl (bs.any id)) H) : rAny K [.ref a] H Q := ⟨a, bs, rfl, SqL.of h, q⟩
theorem sumL {a : Addr} {ns : List Int} (h : H a = some (.lst (ns.map V.int))) (q : Q (.int ns.sum) H) : rSum K [.ref a] H Q := ⟨a, ns, rfl, SqL.of h, q⟩
variable {R : It → Hp → Prop}
theorem izip (h : tr σ H fun vs H1 => ∃ a b xs ys, vs = [.ref a, .ref b] ∧ ((SqL K H1 a xs ∧ SqL K H1 b ys ∧ R (Itz K a b) H1) ∨ (SqT K H1 a xs ∧ SqT K H1 b ys ∧ R (RZ.ItzT K a b) H1))) : RZ.iZipA K tr σ H R := h
theorem izI {a b : Addr} {xs ys : List V} {A : Addr → Addr → Prop} {B : Addr → Addr → Prop} (h1 : H a = some (.lst xs)) (h2 : H b = some (.lst ys)) (q : A a b) : ∃ a' b' xs ys, [V.ref a, .ref b] = [.ref a', .ref b'] ∧ ((SqL K H a' xs ∧ SqL K H b' ys ∧ A a' b') ∨ (SqT K H a' xs ∧ SqT K H b' ys ∧ B a' b')) := ⟨a, b, xs, ys, rfl, .inl ⟨SqL.of h1, SqL.of h2, q⟩⟩
end Rd

set_option Elab.async false
set_option linter.all false
set_option maxRecDepth 100000
namespace L2
open PySem PySem.Spec PyProof.Rows
/-! an own object, and a method, whose def may raise, within a try's body -/
section
variable {X : Cx} {CX : CXT} {lv : Nat} {fa cA : Addr} {fd : FuncData} {pn : List Str} {sp : Sp} {nm mm : Str} {p1 p2 p3 : Pos} {e1 oe : Expr} {er : List Expr} {to' : TE} {tr : TA}
theorem mkS_run {EE : XK} {pins : List (Addr × Obj)} {σ : St} {H : Hp} {s : Shared} {Q : VK} {us : List Value} {vs : List V}
    (M : Mk X.K cA fa) (F : FnOk X.prog X.w X.K X.mg X.base CX lv fa fd pn sp) (rm : Room (lv + 1) X.A)
    (bi : Binds X.K fd pn []) (out : PassesAt CX X σ EE) (I : Inv X pins σ H s) (r : Vals vs us)
    (h : ∀ x dx, H x = none → H dx = none → dx ≠ x →
      sp (.ref x :: vs) (upd (upd H dx (.own x)) x (.ins cA dx [])) (fun v H2 => v = .non ∧ Q (.ref x) H2) EE) :
    wpAny (model X.prog X.w) X.A (call (.ref cA) us) (EP X pins σ Q) X.xe s := by
  have J := Inv.made (C := cA) I
  obtain ⟨n, en⟩ : ∃ n, n = s.heap.objs.size := ⟨_, rfl⟩
  have q0 := h _ _ (I.hok.fresh (Nat.le_succ _)) (I.hok.fresh (Nat.le_refl _)) (Nat.ne_of_lt (Nat.lt_succ_self _))
  have rr : Vals (V.ref (s.heap.objs.size + 1) :: vs) (Value.ref (s.heap.objs.size + 1) :: us) := .cons rfl r
  have ln : (Value.ref (s.heap.objs.size + 1) :: us).length = pn.length :=
    rr.length.symm.trans (F.len _ _ _ _ q0)
  have bb := bi _ (Value.ref (s.heap.objs.size + 1) :: us) J.kIn (by rw [List.append_nil]; exact ln)
  rw [List.append_nil] at bb
  have run := F.run _ X.stack _ _ ⟨Value.ref (s.heap.objs.size + 1) :: us, []⟩ _ _ _ EE
    (rm.make cA us []) (J.env0.make cA us []) bb rr q0
  refine wpAny_call (make_map (f := fa) I.kIn M.makes M.init (beq_iff_eq.mp M.fn) (codeAny_mono run fun res s' got => ?_))
  match res, got with
  | .error e, got => exact out pins _ _ e s' J got
  | .ok (.ret u), got =>
    obtain ⟨v, H', J3, rv, ev, q3⟩ := J.after got
    rw [ev] at rv
    exact ⟨rv, V.ref (s.heap.objs.size + 1), H', J3, rfl, q3⟩
  | .ok .next, got => cases got
  | .ok .brk, got => cases got
  | .ok .cont, got => cases got
def tMakeS (C : Addr) (sp : Sp) (E : St → XK) (t : TA) : TE := fun σ H Q => t σ H fun vs H1 => ∀ x dx, H1 x = none → H1 dx = none → dx ≠ x →
  sp (.ref x :: vs) (upd (upd H1 dx (.own x)) x (.ins C dx [])) (fun v H2 => v = .non ∧ Q (.ref x) H2) (E σ)
theorem pe_makeS {EE : St → XK} (M : Mk X.K cA fa) (F : FnOk X.prog X.w X.K X.mg X.base CX lv fa fd pn sp)
    (rm : Room (lv + 1) X.A) (hg : Gl X nm) (hm : X.mg nm = some (.ref cA)) (bi : Binds X.K fd pn [])
    (out : ∀ σ, PassesAt CX X σ (EE σ)) (ha : PA X (e1 :: er) tr) (nd : (nm == ("__debug__" : Str)) = false := by decide)
    (t1 : starEach (e1 :: er) X.env = (false, eval e1 X.env) :: starEach er X.env := by rfl)
    (t2 : (backTo p2 (starEach er X.env)).any (·.1) = false := by rfl) :
    PE X (.Call (.Name nm p1) (e1 :: er) [] p2) (tMakeS cA sp EE tr) := by
  constructor
  intro pins s σ H Q I h
  refine wpAny_Call_Name_kw (ld_glob I hg hm (PySem.W.callWith_K (h₀ := X.base) I.ok.mod.kin M.kp ?_ t1 t2) nd)
  exact thn (ha.run p2 pins s σ H _ I h) fun us s1 ⟨vs, H1, I1, r, q⟩ => ⟨I1.kIn, mkS_run M F rm bi (out σ) I1 r q⟩
def tMethX (C : Addr) (m : Str) (sp : Sp) (E : St → XK) (ta : TE) (t : TA) : TE := fun σ H Q => ta σ H fun x H1 => ∃ a dx fs, x = .ref a ∧ H1 a = some (.ins C dx fs) ∧ fs.lookup m = none ∧
  t σ H1 fun vs H2 => sp (x :: vs) H2 Q (E σ)
theorem pe_methX {EE : St → XK} {pl : Sem Bool} (ho : PE X oe to') (c : Cls X.K cA) (hm : Meth X.K cA mm fa)
    (F : FnOk X.prog X.w X.K X.mg X.base CX lv fa fd pn sp) (rm : Room lv X.A) (bi : Binds X.K fd pn [])
    (out : ∀ σ, PassesAt CX X σ (EE σ)) (ha : PA X (e1 :: er) tr)
    (t1 : starEach (e1 :: er) X.env = (false, eval e1 X.env) :: starEach er X.env := by rfl)
    (t2 : (backTo p2 (starEach er X.env)).any (·.1) = false := by rfl)
    (ev : eval (.Call (.Attribute oe mm p3) (e1 :: er) [] p2) X.env = (do
      let ov ← eval oe X.env
      standAt p3.atName
      let (f, first) ← holding [ov] (getMethod ov mm pl)
      callWith p2 f first (backTo p2 (starEach (e1 :: er) X.env)) (backToKw p2 (keywordEach [] X.env))) := by rfl) :
    PE X (.Call (.Attribute oe mm p3) (e1 :: er) [] p2) (tMethX cA mm sp EE to' tr) := by
  constructor
  intro pins s σ H Q I h
  refine PySem.W.methodCall_KW (pl := pl) (thn (ho.run pins s σ H _ I h) fun u s1 got => ?_) ev
  obtain ⟨x, H1, I1, rx, a, dx, fs, rfl, ea, l, q⟩ := got
  cases (show u = Value.ref a from rx)
  refine getmeth_ok I1 ea c hm l (PySem.W.callWith_K (first := [.ref a]) (h₀ := X.base) I.ok.mod.kin hm.kp ?_ t1 t2)
  exact thn (ha.run p2 pins s1 σ H1 _ I1 q) fun us s2 ⟨vs, H2, I2, r, q2⟩ => ⟨I2.kIn, run_fnS (us := .ref a :: us) (vs := .ref a :: vs) F rm bi (out σ) I2 (.cons rfl r) q2⟩
end
end L2

set_option Elab.async false
set_option linter.all false
set_option maxRecDepth 100000
namespace L2
open PySem PySem.Spec PySem.Calls PyProof.Rows
/-! an own object without a == of its own, against an integer -/
theorem int_eq_declines_ins (b : Int) (u : Tok) (a C dx : Addr) :
    Meets (Builtin.«int.__eq__» ⟨[.int b u, .ref a], []⟩) (fun _ R s => s.heap.get? a = some (PySem.W.instObj C dx) ∧ R (.ok (.ret .notImplemented)) s) :=
  .of_wp fun prog w A R s h => by
    obtain ⟨hp, g, d, tk, os⟩ := s
    obtain ⟨hl, h⟩ := h
    unfold PySem.W.instObj at hl
    wp_walk using wpAny_loadPart' hl, wpAny_load hl
    exact ⟨_, rfl, h⟩
section
variable {prog : Program} {w : World} {A : Around} {E : Value → Shared → Prop} {s : Shared} {K : PySem.W.Frag} {x C dx : Addr} {od : Option Obj}
theorem ifBound_B {name : Str} {id : String} {args : List Value} {Q : Option Value → Shared → Prop} (X : K.In s.heap) (I : PySem.W.InstAt s.heap x (PySem.W.instObj C dx) C od)
    (hs : PySem.W.findIn K (.ref C) name = some (some (.builtin id))) (hb : ∀ self, bindSpecial (.builtin id) self = pure (.builtin id, [self]))
    (h : wpAny (model prog w) A (call (.builtin id) (.ref x :: args)) (fun v => Q (some v)) E s) : wpAny (model prog w) A (callSpecialIfBound? (.ref x) name args) Q E s := by
  simp only [callSpecialIfBound?, bindSpecialIfBound?]
  refine wpAny_holding (wpAny_bind (wpAny_bind (wpAny_bind (I.type.here ((PySem.W.looks_findIn X hs).here ?_)))))
  simp only [hb]
  refine wpAny_bind (wpAny_askSetting (wpAny_ite ?_))
  have fin : wpAny (model prog w) A (call (.builtin id) ([.ref x] ++ args) >>= fun v => pure (some v)) Q E s := wpAny_bind (wpAny_mono h (fun v s' h' => wpAny_pure h') fun _ _ h' => h')
  split
  · exact wpAny_bind (wpAny_pure (by exact wpAny_pure fin))
  · exact wpAny_tryCatch (wpAny_bind (wpAny_pure (by exact wpAny_pure fin)))
theorem call_objEq_int {n : Int} {t : Tok} {Q : Value → Shared → Prop} (X : K.In s.heap) (I : PySem.W.InstAt s.heap x (PySem.W.instObj C dx) C od)
    (ho : PySem.W.mroIn K C (.type "object") = some true) (hq : Q .notImplemented s) :
    wpAny (model prog w) A (call (.builtin "object.__eq__") [.ref x, .int n t]) Q E s := by
  refine wpAny_call (codeAny_call_builtin F.cmp_object.eq.plain F.cmpEntry_eq ?_)
  simp only [checkBuiltinCall, F.cmpKind_eq, F.cmpSplit_eq]
  refine wpAny_bind ?_
  unfold isInstance
  refine wpAny_bind (I.type.here ((PySem.W.looks_subIn (t := .ref C) X ho).here ?_))
  have body : wpAny (model prog w) A.in1 (Builtin.«object.__eq__» ⟨[.ref x, .int n t], []⟩) (fun fin s' => fin = .done (.ret .notImplemented) ∧ s' = s) E s := by
    unfold Builtin.«object.__eq__»
    have q : isSame (.ref x) (.int n t) = pure false := rfl
    repeat (first | rw [q] | wp_step)
    exact ⟨rfl, rfl⟩
  have fin : wpAny (model prog w) A.in1 (Builtin.«object.__eq__» ⟨[.ref x, .int n t], []⟩) (fun fin s' => match fin with
      | .done f => (match (Except.ok f : Result) with | .ok (.ret v) => Q v s' | .ok _ => False | .error e => E e s')
      | .again c' => c'.quiet = true ∧ codeAny (model prog w) A c' (fun r s' => match r with | .ok (.ret v) => Q v s' | .ok _ => False | .error e => E e s') s') (fun e s' => E e s') s :=
    wpAny_mono body (fun f s' h => by obtain ⟨rfl, rfl⟩ := h; exact hq) (fun _ _ e => e)
  cases hsig : Manifest.signature? "object.__eq__" with
  | none => exact wpAny_pure fin
  | some sig =>
    have ha := F.cmpArgs_eq (.ref x) (.int n t)
    simp only [argsOk, hsig] at ha
    have h2 : Bind.checkArgs "object.__eq__" sig ⟨[.ref x, .int n t], []⟩ = pure () := ha
    show wpAny (model prog w) A.in1 (Bind.checkArgs "object.__eq__" sig ⟨[.ref x, .int n t], []⟩) _ _ s
    rw [h2]
    exact wpAny_pure fin
theorem richCompare_inst_int {n : Int} {t : Tok} {Q : Value → Shared → Prop} (hu : A.units < cLine) (X : K.In s.heap) (I : PySem.W.InstAt s.heap x (PySem.W.instObj C dx) C od)
    (hs : PySem.W.findIn K (.ref C) "__eq__" = some (some (.builtin "object.__eq__"))) (ho : PySem.W.mroIn K C (.type "object") = some true)
    (hn : PySem.W.subIn K (.type "int") (.ref C) = some false) (hq : Q (.bool false) s) : wpAny (model prog w) A (richCompare .Eq (.ref x) (.int n t)) Q E s := by
  unfold richCompare
  simp only [oneThing_ref]
  refine wpAny_holding (wpAny_bind (wpAny_cRoomFor hu ?_))
  refine wpAny_bind (I.type.here (wpAny_bind (wpAny_typeOf (typeIs_int s n t) ?_)))
  have e1 : (Value.ref C != Value.type "int") = true := by rfl
  simp only [e1, if_true]
  refine wpAny_bind ((PySem.W.looks_subIn X hn).here ?_)
  simp only [Bool.false_eq_true, if_false, Bool.not_false, if_true]
  refine wpAny_bind (m := tryCompare (.ref x) _ (.int n t)) ?_
  unfold tryCompare
  refine wpAny_bind (ifBound_B X I hs F.cmp_object.eq.bind (call_objEq_int X I ho ?_))
  refine wpAny_pure ?_
  refine wpAny_bind (m := tryCompare (.int n t) _ (.ref x)) (wpAny_tryCompare_declines (typeIs_int s n t) F.slot_int_eq_refl (call_meets F.slot_int_eq_refl (typeIs_int s n t) F.entry_int_eq (F.args_int_eq_2 _ _) (int_eq_declines_ins n t x C dx) ⟨I.at_, rfl, ?_⟩))
  exact wpAny_bind (wpAny_rule (wpAny_bind (wpAny_of_eq (rfl : isSame (.ref x) (.int n t) = pure false) (wpAny_pure hq))))
end
structure ClsEq (K : PySem.W.Frag) (C : Addr) : Prop where
  eq : PySem.W.findIn K (.ref C) "__eq__" = some (some (.builtin "object.__eq__"))
  ob : PySem.W.mroIn K C (.type "object") = some true
  nt : PySem.W.subIn K (.type "int") (.ref C) = some false
section
variable {X : Cx}
def rEqOI (C : Addr) : R2 := fun x y H Q => ∃ (a dx : Addr) (fs : List (Str × V)) (i : Int), x = .ref a ∧ y = .int i ∧ H a = some (.ins C dx fs) ∧ Q (.bl false) H
theorem op_eqOI {C : Addr} (q : ClsEq X.K C) (hu : X.A.units < cLine) : OpR X (compareOp .Eq) (rEqOI C) := by
  intro pins s σ H x y v u Q I rx ry h
  obtain ⟨a, dx, fs, i, rfl, rfl, ha, hq⟩ := h
  cases (show v = Value.ref a from rx)
  obtain ⟨t, rfl⟩ := ry
  obtain ⟨mA, J, _⟩ := ins_get I.hok ha
  obtain ⟨od, J, _⟩ := J.look
  exact richCompare_inst_int hu I.kIn J q.eq q.ob q.nt ⟨.bl false, H, I, rfl, hq⟩
/-! ### len(set(xs)) for any ints -/
def distinct (ns : List Int) : Nat := (firstMet (fun i => ns.getD i 0) ns.length).length
theorem distinct_nodup {ns : List Int} (h : ns.Nodup) : distinct ns = ns.length := by
  unfold distinct
  rw [firstMet_nodup ns h ns.length (Nat.le_refl _), List.take_length]
theorem distinct_two {x : Int} : distinct [x, x] = 1 := by
  simp [distinct, firstMet, step_dedup, List.range_succ]
def tLenSetD (K : PySem.W.Frag) (ta : TE) : TE := fun σ H Q => ta σ H fun x H1 => ∃ (l : Addr) (ns : List Int), x = V.ref l ∧ SqL K H1 l (ns.map V.int) ∧ ns.length < 64 ∧ Q (.int (distinct ns)) H1
theorem pe_lenSetD {a : Expr} {ta : TE} {p p2 q pos : Pos} (hc : X.calm = true) (hg : Gl X "len") (hm : X.mg "len" = none) (hg2 : Gl X "set") (hm2 : X.mg "set" = none) (ha : PE X a ta)
    (na : starEach [a] X.env = (false, eval a X.env) :: starEach [] X.env := by rfl) : PE X (.Call (.Name "len" p) [.Call (.Name "set" p2) [a] [] q] [] pos) (tLenSetD X.K ta) := by
  refine ⟨fun pins s σ H Q I h => ?_⟩
  refine Call_ (ld_blt I hg hm PySem.boot_len ?_)
  refine PyProof.Rows.callWith_builtin1 (PyProof.Rows.args_cons ?_ rfl) rfl rfl
  refine Call_ (ld_blt I hg2 hm2 PyProof.Rows.boot_set ?_)
  refine PyProof.Rows.callWith_type1 (PyProof.Rows.args_cons (thn (ha.run pins s σ H _ I h) fun v s1 ⟨x, H1, I1, r1, q1⟩ => PyProof.Rows.args_nil ?_) na) na rfl
  obtain ⟨l, ns, rfl, hq, h1, q1⟩ := q1
  cases r1
  obtain ⟨its, r, pl, hz⟩ := I1.list hq
  have hl : its.toArray.size = ns.length := by rw [List.size_toArray, ← r.length, List.length_map]
  refine call_set_list (I1.ok.hd hc) pl.isList (ns := ns) (by simpa using r.ints) (by unfold scanBound; omega) fun h' tk hS hk => ?_
  rw [hl] at hS
  refine PyProof.Rows.args_nil ?_
  obtain ⟨o, es, ep, t, ho, hex, hd, _, _, _, hf, hn⟩ := hS
  have I2 : Inv X pins σ H1 { s1 with heap := h', toks := tk } := I1.kept fun b o e => hk b o (Heap.lt_size e) e
  have dl : (firstMet (fun i => ns.getD i 0) ns.length).length < 64 := Nat.lt_of_le_of_lt (firstMet_length_le _ _) h1
  refine call_len_set ho hex hd hf (by rw [hn] <;> omega) ⟨.int (distinct ns), H1, I2.tok _, ⟨_, by rw [hn]; rfl⟩, q1⟩
end
theorem for_enum {K : PySem.W.Frag} {a : Addr} {xs : List V} {g : TG} {tb : TS} {D : Ends} {σ : St} {H : Hp} (Pv : Nat → St → Hp → Prop) (h0 : Pv 0 σ H) (hl : ∀ i σ H, i ≤ xs.length → Pv i σ H → SqL K H a xs)
    (hs : ∀ (i : Nat) x T σ H, xs[i]? = some x → Pv i σ H → H T = none → g (.ref T) σ (upd H T (.tup [.int i, x])) fun σ2 H2 => tb { D with nx := Pv (i + 1), ct := Pv (i + 1), bk := D.nx } σ2 H2) (hd : ∀ σ H, Pv xs.length σ H → D.nx σ H) :
    ∃ W : Nat → Nat → St → Hp → Prop, (∃ m, W 0 m σ H) ∧ ∀ i m σ H, W i m σ H →
      ((Ite K a).stop i H ∧ D.nx σ H) ∨ ((Ite K a).go i H ∧ ∃ N : St → Hp → Prop, (∀ σ' H', N σ' H' → ∃ m', m' < m ∧ W (i + 1) m' σ' H') ∧ ∀ x H', (Ite K a).yld i H x H' → g x σ H' fun σ2 H2 => tb { D with nx := N, ct := N, bk := D.nx } σ2 H2) := by
  refine ⟨fun i m σ H => m = xs.length - i ∧ i ≤ xs.length ∧ Pv i σ H, ⟨xs.length, by simp, Nat.zero_le _, h0⟩, ?_⟩
  rintro i m σ H ⟨rfl, hi, p⟩
  have q := hl i σ H hi p
  by_cases hlt : i < xs.length
  · refine .inr ⟨⟨xs, xs[i], q, by simp [hlt]⟩, Pv (i + 1), fun σ' H' p' => ⟨xs.length - (i + 1), by omega, rfl, hlt, p'⟩, fun x H' y => ?_⟩
    obtain ⟨T, v, rfl, n, rfl, y⟩ := y
    exact hs i v T σ H (y xs q) p n
  · have e : i = xs.length := by omega
    subst e
    exact .inl ⟨⟨xs, q, Nat.le_refl _⟩, hd σ H p⟩
end L2

set_option Elab.async false
set_option linter.all false
set_option maxRecDepth 100000
/-! dicts whose keys are ints: what a reading asks of them, over lists of pairs -/
namespace L2
open PySem PySem.Spec PyProof.Rows
section
variable {X : Cx}
/-- name = {..} on one line, the name a local: the dict comprehension's form of the rule for a list -/
theorem ps_setDc {i : Nat} {y : Str} {py : Pos} {kx vx tg iter : Expr} {ifs : List Expr} {scope : Scope} {own : List (Str × Nat)} {pos spos : Pos} {wi : TI} {g : TG} {tt : TT} {tk tv : TE} (hc : X.calm = true) (hN : X.N.Nodup) (hy : X.N[i]? = some y) (hyl : X.env.scope.names.lookup y = some .local)
    (hsw : swapsWith (.DictComp kx vx [⟨tg, iter, ifs, 0⟩] scope pos) (some (.Name y py)) spos.line X.env = pure true) (hi : PI X tg iter wi) (ok : BlkOk X.N X.env.scope scope own)
    (hg : ∀ (s : Shared) (H : Hp) (C : Addr) (cl : List (Str × Addr)) (fp : List Addr), PG (X.blk s H scope (compEnvC scope cl C X.env) fp) tg g) (ht : ∀ (s : Shared) (H : Hp) (C : Addr) (cl : List (Str × Addr)) (fp : List Addr), PTs (X.blk s H scope (compEnvC scope cl C X.env) fp) ifs tt)
    (hk : ∀ (s : Shared) (H : Hp) (C : Addr) (cl : List (Str × Addr)) (fp : List Addr), PE (X.blk s H scope (compEnvC scope cl C X.env) fp) kx tk)
    (he : ∀ (s : Shared) (H : Hp) (C : Addr) (cl : List (Str × Addr)) (fp : List Addr), PE (X.blk s H scope (compEnvC scope cl C X.env) fp) vx tv) (hs : ∀ x, foldedSetIterable iter X.env x = pure x := by intro _; rfl) :
    PS X (.Assign [.Name y py] (.DictComp kx vx [⟨tg, iter, ifs, 0⟩] scope pos) spos) (tAsg (tDc wi g tt tk tv (own.map (·.2))) (gName i)) := by
  refine ⟨fun pins s σ H D I h => ?_⟩
  rw [exec_Assign_Name_used _ _ _ _ hsw]
  refine wpAny_bind (wpAny_standAt (wpAny_bind ?_))
  show wpAny _ X.A (do let _ ← comprehension (.DictComp kx vx [⟨tg, iter, ifs, 0⟩] scope pos) scope X.env (firstIterPos [⟨tg, iter, ifs, 0⟩] pos) newDict false (eval iter X.env) (some (assign (.Name y py) X.env))) _ _ s
  have h : tDc wi g tt tk tv (own.map (·.2)) σ H (fun x H1 => gName i x σ H1 D.nx) := h
  refine wpAny_bind (thn (dc_core (Qf := fun _ s' => SP X pins D .next s') hc hN I hi ok hg ht hk he hs h fun L C s' m H' I' q hn f => ?_) fun _ s' hq => wpAny_pure (wpAny_pure hq))
  show wpAny _ _ (assign (.Name y py) X.env (.ref L)) _ _ _
  refine wpAny_assign_Name (store_ok2 (v := V.ref L) I' hN hy (.inl hyl) rfl (fun s2 I2 ⟨a, sb, ha⟩ => ?_) (.inr hyl))
  obtain ⟨f0, f1, f2, f3, f4, f5⟩ := f
  have haC : C ≠ a := by
    rcases ha with z | z
    · rw [z]; exact f1
    · exact fun e => f4 y a z e.symm
  refine ⟨m, hn.sameBut sb haC, fun h3 sb3 => ?_⟩
  exact ⟨_, H', I2.turned (t' := s2.toks) (fun b o hb e => (sb3.2 b hb).trans e) f0 f1 f3 f4 f5, q⟩
theorem sw_trueD {kx vx : Expr} {gs : List Comprehension} {scope : Scope} {pos py : Pos} {y : Str} {l : Nat} {env : Env} (hk : env.scope.kind = .function) (hy : env.scope.names.lookup y = some .local) (hl : (py.line == pos.line) = true)
    (ha : (scope.names.any fun (n, k) => n == y && (k == .local || k == .cell)) = false) : swapsWith (.DictComp kx vx gs scope pos) (some (.Name y py)) l env = pure true := by
  have ky : env.kindOf y = some .local := hy
  have hb : env.blockKind = .function := by unfold Env.blockKind; rw [hk]; rfl
  unfold swapsWith
  simp only [hb, ky, ha, Expr.pos, hl]
  rfl
end
end L2
namespace Rd
open PySem PySem.Spec PyProof.Rows L2
variable {K : PySem.W.Frag} {σ : L2.St} {H : Hp} {D : Ends} {Q : VK} {ta tb te tc td ty tx : TE} {x y v : V}
/-- a dict of ints to values, in order -/
abbrev DI (m : List (Int × V)) : HO := .dK (m.map fun p => (Sum.inl p.1, p.2))
def lk (m : List (Int × V)) (k : Int) : Option V := (m.find? fun p => decide (p.1 = k)).map (·.2)
def pt (m : List (Int × V)) (k : Int) (v : V) : List (Int × V) := if (m.any fun p => decide (p.1 = k)) = true then m.map (fun p => if p.1 = k then (p.1, v) else p) else m ++ [(k, v)]
theorem valV_di (m : List (Int × V)) (k : Int) : valV (m.map fun p => ((Sum.inl p.1 : Key), p.2)) (Sum.inl k) = lk m k := by
  unfold valV lk
  induction m with
  | nil => rfl
  | cons a r ih =>
    rw [List.map_cons, List.find?_cons, List.find?_cons]
    by_cases h : a.1 = k
    · have e : decide ((Sum.inl a.1 : Key) = Sum.inl k) = true := decide_eq_true (by rw [h])
      rw [e, decide_eq_true h]; rfl
    · have e : decide ((Sum.inl a.1 : Key) = Sum.inl k) = false := decide_eq_false fun z => h (Sum.inl.inj z)
      rw [e, decide_eq_false h]; exact ih
theorem putK_di (m : List (Int × V)) (k : Int) (v : V) : putK (m.map fun p => ((Sum.inl p.1 : Key), p.2)) (Sum.inl k) v = (pt m k v).map fun p => ((Sum.inl p.1 : Key), p.2) := by
  have e : ∀ p : Int × V, decide ((Sum.inl p.1 : Key) = Sum.inl k) = decide (p.1 = k) := fun p => by
    by_cases h : p.1 = k
    · rw [decide_eq_true h, decide_eq_true (by rw [h])]
    · rw [decide_eq_false h, decide_eq_false fun z => h (Sum.inl.inj z)]
  unfold putK pt
  rw [List.any_map]
  have e2 : (m.any ((fun kv : Key × V => decide (kv.1 = Sum.inl k)) ∘ fun p => ((Sum.inl p.1 : Key), p.2))) = m.any fun p => decide (p.1 = k) := by
    congr 1; funext p; exact e p
  rw [e2]
  split
  · rw [List.map_map, List.map_map]
    congr 1; funext p
    show (if (Sum.inl p.1 : Key) = Sum.inl k then ((Sum.inl p.1 : Key), v) else (Sum.inl p.1, p.2)) = _
    by_cases h : p.1 = k
    · simp [h]
    · have h2 : ¬ (Sum.inl p.1 : Key) = Sum.inl k := fun z => h (Sum.inl.inj z)
      simp [h]
  · rw [List.map_append]; rfl
theorem get_di {a : Addr} {m : List (Int × V)} {k : Int} (h : Rd H a (DI m)) : DGet H a (.int k) (lk m k) := .inl ⟨_, Sum.inl k, h, rfl, (valV_di m k).symm⟩
theorem rd_of {a : Addr} {u : HO} (h : H a = some u) : L2.Rd H a u := .inl h
theorem rd_fz {a : Addr} {u : HO} {o : Obj} (h : H a = some (.frz o u)) : L2.Rd H a u := .inr ⟨o, h⟩
theorem lk_pt (m : List (Int × V)) (k k' : Int) (v : V) : lk (pt m k v) k' = if k' = k then some v else lk m k' := by
  unfold pt
  split
  · rename_i c
    unfold lk
    induction m with
    | nil => simp at c
    | cons a r ih =>
      rw [List.map_cons, List.find?_cons, List.find?_cons]
      by_cases h : a.1 = k
      · rw [if_pos h]
        by_cases h2 : k' = k
        · rw [if_pos h2, decide_eq_true (by rw [h, h2])]; rfl
        · have e : ¬ a.1 = k' := fun z => h2 (by rw [← z, h])
          rw [if_neg h2, decide_eq_false e]
          have e2 : List.map (fun p => if p.1 = k then (p.1, v) else p) r = List.map (fun p => if p.1 = k then (p.1, v) else p) r := rfl
          have : (List.find? (fun p => decide (p.1 = k')) (List.map (fun p => if p.1 = k then (p.1, v) else p) r)).map (·.2) = (List.find? (fun p => decide (p.1 = k')) r).map (·.2) := by
            clear ih c e2
            induction r with
            | nil => rfl
            | cons b r ih =>
              rw [List.map_cons, List.find?_cons, List.find?_cons]
              by_cases h3 : b.1 = k
              · rw [if_pos h3, decide_eq_false (fun z : b.1 = k' => h2 (by rw [← z, h3]))]; exact ih
              · rw [if_neg h3]
                by_cases h4 : b.1 = k'
                · rw [decide_eq_true h4]
                · rw [decide_eq_false h4]; exact ih
          exact this
      · rw [if_neg h]
        have c2 : (r.any fun p => decide (p.1 = k)) = true := by
          rw [List.any_cons, decide_eq_false h, Bool.false_or] at c; exact c
        by_cases h4 : a.1 = k'
        · have e : ¬ k' = k := fun z => h (by rw [h4, z])
          rw [decide_eq_true h4, if_neg e]
        · rw [decide_eq_false h4]; exact ih c2
  · rename_i c
    unfold lk
    rw [List.find?_append]
    have nk : ∀ p ∈ m, ¬ p.1 = k := fun p hp z => c (List.any_eq_true.mpr ⟨p, hp, decide_eq_true z⟩)
    by_cases h2 : k' = k
    · rw [if_pos h2, h2]
      have e : List.find? (fun p => decide (p.1 = k)) m = none := List.find?_eq_none.mpr fun p hp z => nk p hp (of_decide_eq_true z)
      rw [e]; simp
    · rw [if_neg h2]
      have e : ¬ k = k' := fun z => h2 z.symm
      have e2 : List.find? (fun p : Int × V => decide (p.1 = k')) [(k, v)] = none := by simp [e]
      rw [e2, Option.or_none]
theorem pt_len {m : List (Int × V)} {k : Int} {v : V} : (pt m k v).length ≤ m.length + 1 := by
  unfold pt
  split <;> simp
/-! ### expressions -/
def NewD (Q : VK) (H : Hp) : Prop := ∀ p, H p = none → Q (.ref p) (upd H p (.dK []))
theorem dnew (h : NewD Q H) : tDNewK σ H Q := h
theorem nwD (h : ∀ p H', H p = none → Same H H' → H' p = some (DI []) → Q (.ref p) H') : NewD Q H := fun p np => h p _ np (same_new np) upd_same
def DinG (Q : VK) (x y : V) (H : Hp) : Prop := ∃ a o, x = .ref a ∧ DGet H a y o ∧ Q (.bl o.isSome) H
theorem din (h : ty σ H fun y H1 => td σ H1 fun x H2 => DinG Q x y H2) : tDIn ty td σ H Q := h
theorem dinI {a : Addr} {m : List (Int × V)} {k : Int} (h : L2.Rd H a (DI m)) (q : Q (.bl (lk m k).isSome) H) : DinG Q (.ref a) (.int k) H := ⟨a, _, rfl, get_di h, q⟩
def DnotG (Q : VK) (x y : V) (H : Hp) : Prop := ∃ a o, x = .ref a ∧ DGet H a y o ∧ Q (.bl (!o.isSome)) H
theorem dnot (h : ty σ H fun y H1 => td σ H1 fun x H2 => DnotG Q x y H2) : tDNotIn ty td σ H Q := h
theorem dnotI {a : Addr} {m : List (Int × V)} {k : Int} (h : L2.Rd H a (DI m)) (q : Q (.bl (!(lk m k).isSome)) H) : DnotG Q (.ref a) (.int k) H := ⟨a, _, rfl, get_di h, q⟩
def DgG (Q : VK) (x y : V) (H : Hp) : Prop := ∃ a v, x = .ref a ∧ DGet H a y (some v) ∧ Q v H
theorem dget (h : td σ H fun x H1 => ty σ H1 fun y H2 => DgG Q x y H2) : tDGet td ty σ H Q := h
theorem dgetI {a : Addr} {m : List (Int × V)} {k : Int} (h : L2.Rd H a (DI m)) (e : lk m k = some v) (q : Q v H) : DgG Q (.ref a) (.int k) H := ⟨a, v, rfl, e ▸ get_di h, q⟩
def Dg2G (Q : VK) (a : Addr) (y z : V) (H : Hp) : Prop := ∃ o, DGet H a y o ∧ Q (o.getD z) H
theorem dget2 (h : td σ H fun x H1 => ∃ a, x = .ref a ∧ IsD H1 a ∧ ty σ H1 fun y H2 => tx σ H2 fun z H3 => Dg2G Q a y z H3) : tDGet2 td ty tx σ H Q := h
theorem isd {a : Addr} {m : List (Int × V)} {A : Prop} (h : H a = some (DI m)) (q : A) : IsD H a ∧ A := ⟨.inl ⟨_, .inl h⟩, q⟩
theorem dget2I {a : Addr} {m : List (Int × V)} {k : Int} {z : V} (h : L2.Rd H a (DI m)) (q : Q ((lk m k).getD z) H) : Dg2G Q a (.int k) z H := ⟨_, get_di h, q⟩
def DpG (D : Ends) (σ : L2.St) (x y v : V) (H : Hp) : Prop := ∃ a H4, x = .ref a ∧ DPut H a y v H4 ∧ D.nx σ H4
theorem dput {tv : TE} (h : tv σ H fun v H1 => td σ H1 fun x H2 => ty σ H2 fun y H3 => DpG D σ x y v H3) : sDPut td ty tv D σ H := h
theorem dputI {a : Addr} {m : List (Int × V)} {k : Int} (h : H a = some (DI m)) (l : m.length < 100000) (q : D.nx σ (upd H a (DI (pt m k v)))) : DpG D σ (.ref a) (.int k) v H :=
  ⟨a, _, rfl, .inl ⟨_, Sum.inl k, h, rfl, by rw [List.length_map]; exact szl l, rfl⟩, by rw [putK_di]; exact q⟩
/-- dict(d) -/
def DictOf (Q : VK) (vs : List V) (H : Hp) : Prop := ∃ (a : Addr) (kvs : List (Key × V)), vs = [.ref a] ∧ L2.Rd H a (.dK kvs) ∧ ∀ p, H p = none → Q (.ref p) (upd H p (.dK kvs))
theorem cbDictOf {tr : TA} (h : tr σ H (DictOf Q)) : tCB (fun xs H Q => ∃ (a : Addr) (kvs : List (Key × V)), xs = [.ref a] ∧ L2.Rd H a (.dK kvs) ∧ ∀ p, H p = none → Q (.ref p) (upd H p (.dK kvs))) tr σ H Q := h
theorem dictOf {a : Addr} {m : List (Int × V)} (s : H a = some (DI m)) (h : ∀ p H', H p = none → Same H H' → H' p = some (DI m) → Q (.ref p) H') : DictOf Q [.ref a] H := ⟨a, _, rfl, .inl s, fun p np => h p _ np (same_new np) upd_same⟩
theorem isi_dd {n : Addr} {m : List (Int × V)} (h : H n = some (DI m)) (q : Q (.bl true) H) : rIsi K [.ref n, .ty "dict"] H Q := isi (.base (.dK h)) (by decide +kernel) q
/-! ### == -/
theorem neDict {a b : Addr} {m n : List (Int × V)} (ea : H a = some (DI m)) (eb : H b = some (DI n)) (l : m.length = n.length) (e : ∀ p ∈ m, lk n p.1 = some p.2 ∧ flatB p.2 = true) (q : Q (.bl false) H) : rNeDA (.ref a) (.ref b) H Q :=
  ⟨a, b, _, _, rfl, rfl, ea, eb, by rw [List.length_map, List.length_map]; exact l, fun p hp => by
    obtain ⟨x, hx, rfl⟩ := List.mem_map.mp hp
    rw [valV_di]; exact e x hx, q⟩
theorem eqDict {a b : Addr} {m n : List (Int × V)} (ea : H a = some (DI m)) (eb : H b = some (DI n)) (l : m.length = n.length) (e : ∀ p ∈ m, lk n p.1 = some p.2 ∧ flatB p.2 = true) (q : Q (.bl true) H) : rEqDA (.ref a) (.ref b) H Q :=
  ⟨a, b, _, _, rfl, rfl, ea, eb, by rw [List.length_map, List.length_map]; exact l, fun p hp => by
    obtain ⟨x, hx, rfl⟩ := List.mem_map.mp hp
    rw [valV_di]; exact e x hx, q⟩
/-! ### walks -/
variable {R : It → Hp → Prop}
theorem iitems (h : te σ H fun x H1 => ∃ d o kvs, x = .ref d ∧ H1 d = some (.frz o (.dK kvs)) ∧ R (Iti d o kvs) H1) : iItems te σ H R := h
theorem itA {d : Addr} {o : Obj} {kvs : List (Key × V)} {P : Addr → Obj → List (Key × V) → Prop} (h : H d = some (.frz o (.dK kvs))) (q : P d o kvs) : ∃ d' o' kvs', V.ref d = .ref d' ∧ H d' = some (.frz o' (.dK kvs')) ∧ P d' o' kvs' := ⟨d, o, kvs, rfl, h, q⟩
theorem ikeys (h : te σ H fun x H1 => ∃ d o, x = .ref d ∧ ((∃ kvs, H1 d = some (.frz o (.dK kvs)) ∧ R (Itk d o kvs) H1) ∨ ∃ kvs, H1 d = some (.frz o (.dT kvs)) ∧ R (Itkt d o kvs) H1)) : iKeys te σ H R := h
theorem ikA {d : Addr} {o : Obj} {kvs : List (Key × V)} {P : Addr → Obj → List (Key × V) → Prop} {B : Addr → Obj → Prop} (h : H d = some (.frz o (.dK kvs))) (q : P d o kvs) : ∃ d' o', V.ref d = .ref d' ∧ ((∃ kvs', H d' = some (.frz o' (.dK kvs')) ∧ P d' o' kvs') ∨ B d' o') := ⟨d, o, rfl, .inl ⟨kvs, h, q⟩⟩
theorem lockS {t : TS} {d : Addr} {m : List (Int × V)} (h : H d = some (DI m)) (q : ∀ od, t ⟨fun σ' H' => H' d = some (.frz od (DI m)) ∧ D.nx σ' (upd H' d (DI m)), fun v H' => H' d = some (.frz od (DI m)) ∧ D.rt v (upd H' d (DI m)), fun σ' H' => H' d = some (.frz od (DI m)) ∧ D.bk σ' (upd H' d (DI m)), fun σ' H' => H' d = some (.frz od (DI m)) ∧ D.ct σ' (upd H' d (DI m))⟩ σ (upd H d (.frz od (DI m)))) : tLock t D σ H :=
  ⟨d, _, h, trivial, q⟩
theorem lockE {t : TE} {d : Addr} {m : List (Int × V)} (h : H d = some (DI m)) (q : ∀ od, t σ (upd H d (.frz od (DI m))) fun v H' => H' d = some (.frz od (DI m)) ∧ Q v (upd H' d (DI m))) : tLockE t σ H Q := ⟨d, _, h, trivial, q⟩
/-- the dict given back: all is kept -/
theorem unlock {H' : Hp} {d : Addr} {u : HO} (h : H d = some u) (b : But d H H') : Same H (upd H' d u) := fun c o e => by
  by_cases z : c = d
  · subst z; rw [upd_same]; exact h.symm.trans e
  · rw [upd_ne z]; exact b c o z e
theorem lock {d : Addr} {u : HO} : But d H (upd H d u) := But.at_
/-- the i-th pair of a walk over items: a new tuple -/
theorem items_at {m : List (Int × V)} {i : Nat} {x : V} {H H' : Hp} (y : YPair (fun i => ((m.map fun p => ((Sum.inl p.1 : Key), p.2))[i]?).map fun kv => kV kv.1) (fun i => ((m.map fun p => ((Sum.inl p.1 : Key), p.2))[i]?).map Prod.snd) i H x H') :
    ∃ (T : Addr) (p : Int × V), m[i]? = some p ∧ x = .ref T ∧ H T = none ∧ H' = upd H T (.tup [.int p.1, p.2]) := by
  obtain ⟨T, a, b, e1, e2, e3, e4, e5⟩ := y
  dsimp only at e4 e5
  rw [List.getElem?_map] at e4 e5
  cases e : m[i]? with
  | none => rw [e] at e4; cases e4
  | some p =>
    rw [e] at e4 e5
    cases e4; cases e5
    exact ⟨T, p, rfl, e1, e2, e3⟩
theorem keys_at {m : List (Int × V)} {i : Nat} {x : V} {H H' : Hp} (y : H' = H ∧ ∃ k v, (m.map fun p => ((Sum.inl p.1 : Key), p.2))[i]? = some (k, v) ∧ x = kV k) : H' = H ∧ ∃ p : Int × V, m[i]? = some p ∧ x = .int p.1 := by
  obtain ⟨e, k, v, h, rfl⟩ := y
  rw [List.getElem?_map] at h
  cases e2 : m[i]? with
  | none => rw [e2] at h; cases h
  | some p => rw [e2] at h; cases h; exact ⟨e, p, rfl, rfl⟩
/-! ### comprehensions -/
theorem dc {wi : TI} {g : TG} {tt : TT} {tk tv : TE} {ws : List Nat} (h : wi σ H fun J H1 => ∀ D, H1 D = none → ∃ W : Nat → Nat → Hp → Prop, (∃ m, W 0 m (upd H1 D (.dK []))) ∧ ∀ i m H, W i m H →
  (J.stop i H ∧ Q (.ref D) H) ∨ (J.go i H ∧ ∃ Nx : Hp → Prop, (∀ H', Nx H' → ∃ m', m' < m ∧ W (i + 1) m' H') ∧ ∀ x H', J.yld i H x H' → g x (wipe σ ws) H' fun σ2 H2 => wipe σ2 ws = wipe σ ws ∧ tt σ2 H2 fun b H3 =>
    if b = true then tk σ2 H3 fun y H4 => tv σ2 H4 fun z H5 => ∃ kvs k, y = kV k ∧ H5 D = some (.dK kvs) ∧ kvs.length < sizeLine ∧ Nx (upd H5 D (.dK (putK kvs k z))) else Nx H3)) : tDc wi g tt tk tv ws σ H Q := h
theorem dc_it {J : It} {n : Nat} {G : Hp → Prop} {Y : Nat → Hp → V → Hp → Prop} (w : Walk J n G Y) {g : TG} {tt : TT} {tk tv : TE} {vs : List Nat} {H1 : Hp} {d : Addr} {Qd : Hp → Prop} (Pv : Nat → Hp → Prop) (h0 : Pv 0 (upd H1 d (DI []))) (hG : ∀ i H, i ≤ n → Pv i H → G H)
    (hs : ∀ i x H H' (Kt : V → V → Hp → Prop) (Kn : Hp → Prop), i < n → Pv i H → Y i H x H' → (∀ m k z H5, H5 d = some (DI m) → m.length < 100000 → Pv (i + 1) (upd H5 d (DI (pt m k z))) → Kt (.int k) z H5) → (∀ H3, Pv (i + 1) H3 → Kn H3) →
      g x (wipe σ vs) H' fun σ2 H2 => wipe σ2 vs = wipe σ vs ∧ tt σ2 H2 fun b H3 => if b = true then tk σ2 H3 fun y H4 => tv σ2 H4 fun z H5 => Kt y z H5 else Kn H3)
    (hd : ∀ H, Pv n H → Qd H) :
    ∃ W : Nat → Nat → Hp → Prop, (∃ m, W 0 m (upd H1 d (.dK []))) ∧ ∀ i m H, W i m H →
      (J.stop i H ∧ Qd H) ∨ (J.go i H ∧ ∃ Nx : Hp → Prop, (∀ H', Nx H' → ∃ m', m' < m ∧ W (i + 1) m' H') ∧ ∀ x H', J.yld i H x H' → g x (wipe σ vs) H' fun σ2 H2 => wipe σ2 vs = wipe σ vs ∧ tt σ2 H2 fun b H3 =>
        if b = true then tk σ2 H3 fun y H4 => tv σ2 H4 fun z H5 => ∃ kvs k, y = kV k ∧ H5 d = some (.dK kvs) ∧ kvs.length < sizeLine ∧ Nx (upd H5 d (.dK (putK kvs k z))) else Nx H3) := by
  refine ⟨fun i m H => m = n - i ∧ i ≤ n ∧ Pv i H, ⟨n, by simp, Nat.zero_le _, h0⟩, ?_⟩
  rintro i m H ⟨rfl, hi, p⟩
  have q := hG i H hi p
  by_cases hlt : i < n
  · refine .inr ⟨w.goes i H hlt q, Pv (i + 1), fun H' p' => ⟨n - (i + 1), by omega, rfl, hlt, p'⟩, fun x H' y => ?_⟩
    exact hs i x H H' (fun y z H5 => ∃ kvs k, y = kV k ∧ H5 d = some (.dK kvs) ∧ kvs.length < sizeLine ∧ Pv (i + 1) (upd H5 d (.dK (putK kvs k z)))) _ hlt p (w.yields i H x H' hlt q y)
      (fun m k z H5 h5 hl r => ⟨_, Sum.inl k, rfl, h5, by rw [List.length_map]; exact szl hl, by rw [putK_di]; exact r⟩) fun _ h => h
  · have e : i = n := by omega
    subst e
    exact .inl ⟨w.stops H q, hd H p⟩
end Rd

set_option Elab.async false
set_option linter.all false
set_option maxRecDepth 100000
namespace L2
open PySem PySem.Spec PyProof.Rows
/-- max(xs, default=d) of a list of ints -/
def rMaxDf (K : PySem.W.Frag) : List V → List V → Hp → VK → Prop := fun vs zs H Q => ∃ (a : Addr) (ns : List Int) (d : V), vs = [V.ref a] ∧ zs = [d] ∧ SqL K H a (ns.map V.int) ∧ (ns = [] → Q d H) ∧ ∀ m, m ∈ ns → (∀ y ∈ ns, y ≤ m) → Q (.int m) H
theorem maxOf_spec (y : Int) (ys : List Int) : PySem.W.maxOf y ys ∈ y :: ys ∧ ∀ z ∈ y :: ys, z ≤ PySem.W.maxOf y ys := by
  unfold PySem.W.maxOf
  induction ys generalizing y with
  | nil => simp
  | cons b r ih =>
    obtain ⟨h1, h2⟩ := ih (if PySem.W.DatumOrd.lt y b = true then b else y)
    have e : (PySem.W.DatumOrd.lt y b = true) = (y < b) := by
      show (decide (y < b) = true) = (y < b)
      simp
    rw [List.foldl_cons]
    refine ⟨?_, fun z m => ?_⟩
    · rcases List.mem_cons.mp h1 with h | h
      · rw [h]
        split
        · exact List.mem_cons_of_mem _ List.mem_cons_self
        · exact List.mem_cons_self
      · exact List.mem_cons_of_mem _ (List.mem_cons_of_mem _ h)
    · have h0 := h2 _ List.mem_cons_self
      by_cases c : y < b
      · rw [if_pos (by rw [e]; exact c)] at h0 h2 ⊢
        rcases List.mem_cons.mp m with rfl | m
        · omega
        rcases List.mem_cons.mp m with rfl | m
        · exact h0
        · exact h2 z (List.mem_cons_of_mem _ m)
      · rw [if_neg (by rw [e]; exact c)] at h0 h2 ⊢
        rcases List.mem_cons.mp m with rfl | m
        · exact h0
        rcases List.mem_cons.mp m with rfl | m
        · omega
        · exact h2 z (List.mem_cons_of_mem _ m)
theorem cr_maxDf {X : Cx} (hc : X.calm = true) (hu : X.A.units + 65 < cLine) : CallRK X (.builtin "max") [Str.ofString "default"] (rMaxDf X.K) := by
  intro pins s σ H vs zs us ws Q I r rz h
  obtain ⟨a, ns, d, rfl, rfl, hs, h0, h1⟩ := h
  obtain ⟨its, rv, hl, _⟩ := I.list hs
  rw [Vals.ref1 r]
  cases rz with
  | cons rd rt =>
    rename_i ud ut
    cases rt
    show wpAny _ _ (call (.builtin "max") [.ref a] [(Str.ofString "default", ud)]) _ _ s
    refine PySem.W.max_list_datum_default (α := Int) (xs := ns) (I.ok.hd hc) hl.isList (PySem.W.HoldAll.of_ints rv.ints) (by show X.A.units + 1 + 0 < cLine; omega) (fun e h' tk hk => ⟨d, H, I.kept hk, rd, h0 e⟩) fun y ys i v h' tk e hi hv hk => ?_
    obtain ⟨as, rd2⟩ := hv
    subst e
    obtain ⟨m1, m2⟩ := maxOf_spec y ys
    generalize hm : PySem.W.maxOf y ys = m at *
    have rd3 : Reads h' v (.int m) as := rd2
    cases rd3
    exact ⟨.int m, H, I.kept hk, ⟨_, rfl⟩, h1 m m1 m2⟩
end L2
namespace Rd
open PySem PySem.Spec PyProof.Rows L2
variable {K : PySem.W.Frag} {σ : L2.St} {H : Hp} {D : Ends} {Q : VK} {td ty tx : TE} {x y v : V} {tr tk : TA}
def MxG (K : PySem.W.Frag) (Q : VK) (vs zs : List V) (H : Hp) : Prop := rMaxDf K vs zs H Q
theorem ckw {r : List V → List V → Hp → VK → Prop} (h : tr σ H fun vs H1 => tk σ H1 fun zs H2 => r vs zs H2 Q) : tCKw r tr tk σ H Q := h
theorem maxDf {a : Addr} {ns : List Int} {d : V} (h : H a = some (.lst (ns.map V.int))) (h0 : ns = [] → Q d H) (h1 : ∀ m, m ∈ ns → (∀ y ∈ ns, y ≤ m) → Q (.int m) H) : rMaxDf K [.ref a] [d] H Q := ⟨a, ns, d, rfl, rfl, SqL.of h, h0, h1⟩
def StG (a : Addr) (y z : V) (Q : VK) (H3 : Hp) : Prop := ∃ (kvs : List (Key × V)) (k : Key), H3 a = some (.dK kvs) ∧ y = kV k ∧ kvs.length < sizeLine ∧ (∀ v, valV kvs k = some v → Q v H3) ∧ (valV kvs k = none → Q z (upd H3 a (.dK (putK kvs k z))))
theorem dsetd (h : td σ H fun x H1 => ∃ a, x = .ref a ∧ IsD H1 a ∧ ty σ H1 fun y H2 => tx σ H2 fun z H3 => StG a y z Q H3) : tDSetd td ty tx σ H Q := h
theorem dsetdI {a : Addr} {m : List (Int × V)} {k : Int} {z : V} (h : H a = some (DI m)) (l : m.length < 100000) (h1 : ∀ v, lk m k = some v → Q v H) (h2 : lk m k = none → Q z (upd H a (DI (pt m k z)))) : StG a (.int k) z Q H :=
  ⟨_, Sum.inl k, h, rfl, by rw [List.length_map]; exact szl l, fun v e => h1 v (by rw [← valV_di]; exact e), fun e => by rw [putK_di]; exact h2 (by rw [← valV_di]; exact e)⟩
def DlG (D : Ends) (σ : L2.St) (x y : V) (H2 : Hp) : Prop := ∃ a kvs k, x = .ref a ∧ H2 a = some (.dK kvs) ∧ y = kV k ∧ (valV kvs k).isSome = true ∧ D.nx σ (upd H2 a (.dK (dropK kvs k)))
theorem ddel (h : td σ H fun x H1 => ty σ H1 fun y H2 => DlG D σ x y H2) : sDDel td ty D σ H := h
def dr (m : List (Int × V)) (k : Int) : List (Int × V) := m.filter fun p => !decide (p.1 = k)
theorem dropK_di (m : List (Int × V)) (k : Int) : dropK (m.map fun p => ((Sum.inl p.1 : Key), p.2)) (Sum.inl k) = (dr m k).map fun p => ((Sum.inl p.1 : Key), p.2) := by
  unfold dropK dr
  induction m with
  | nil => rfl
  | cons a r ih =>
    rw [List.map_cons, List.filter_cons, List.filter_cons, ih]
    by_cases h : a.1 = k <;> simp [h]
theorem lk_dr (m : List (Int × V)) (k k' : Int) : lk (dr m k) k' = if k' = k then none else lk m k' := by
  unfold lk dr
  induction m with
  | nil => simp
  | cons a r ih =>
    rw [List.filter_cons]
    by_cases h : a.1 = k
    · rw [if_neg (by simp [h]), ih]
      by_cases h2 : k' = k
      · rw [if_pos h2, if_pos h2]
      · rw [if_neg h2, if_neg h2, List.find?_cons, decide_eq_false (by rw [h]; exact fun z => h2 z.symm)]
    · rw [if_pos (by simp [h]), List.find?_cons]
      by_cases h3 : a.1 = k'
      · rw [decide_eq_true h3, if_neg (by rw [← h3]; exact h), List.find?_cons, decide_eq_true h3]
      · rw [decide_eq_false h3]
        rw [ih, List.find?_cons, decide_eq_false h3]
theorem ddelI {a : Addr} {m : List (Int × V)} {k : Int} (h : H a = some (DI m)) (e : (lk m k).isSome = true) (q : D.nx σ (upd H a (DI (dr m k)))) : DlG D σ (.ref a) (.int k) H :=
  ⟨a, _, Sum.inl k, rfl, h, rfl, by rw [valV_di]; exact e, by rw [dropK_di]; exact q⟩
end Rd

set_option Elab.async false
set_option linter.all false
set_option maxRecDepth 100000
namespace L2
open PySem PySem.Spec PyProof.Rows
/-! set(xs) of a list of ints -/
/-- the set just made -/
abbrev eSet (w : World) : Obj := { cls := .type "set", dict := none, data := .set #[] 0 (.fresh 0 0 (!w.params.followText "set-order")) }
section
variable {P : Program} {w : World} {A : Around} {E : Value → Shared → Prop} {s : Shared}
/-- what the filling says of the heap behind it -/
def Filled (w : World) (s : Shared) (ns : List Int) (h' : Heap) (c : Nat) : Prop :=
  SetR w h' s.heap.objs.size (fun j => decide (j ∈ ns)) c ∧ c ≤ ns.length ∧ ∀ b o, s.heap.get? b = some o → h'.get? b = some o
set_option maxHeartbeats 3200000 in
theorem set_listI {l : Addr} {items : Array Value} (ns : List Int) {Q : Value → Shared → Prop} (hh : A.handled = none) (hl : s.heap.IsList l items) (hit : IntsAre items.toList ns) (hb : ns.length + 1 < scanBound)
    (h : ∀ (h' : Heap) (tk c : Nat), Filled w s ns h' c → Q (.ref s.heap.objs.size) { s with heap := h', toks := tk }) :
    wpAny (model P w) A (call (.type "set") [.ref l]) Q E s := by
  have hlS : l < s.heap.objs.size := by
    obtain ⟨ol, hol, _⟩ := hl
    exact Heap.lt_size hol
  have hisz : items.size = ns.length := by
    have q := IntsAre.length hit
    rwa [Array.length_toList] at q
  obtain ⟨c, tl, hmro⟩ := F.called_set.mro
  have hmade := F.called_set.made
  have hsub := F.called_set.sub
  have h1 := F.called_set.notType
  have h2 := F.called_set.canCreate
  have hct := F.typeCall_set_1 (.ref l)
  refine wpAny_call (codeAny_of_tree ?_)
  show wpAny _ _ (callAny (.type "set") _) _ _ _
  refine wpAny_pure ⟨Code.quiet_builtin _ (by decide +kernel), codeAny_builtin F.entry_type_call ?_⟩
  rw [Around.under_plain (weight_type_call_type "set" [.ref l] []) rfl]
  repeat (any_goals (first | assumption | wp_step))
  refine codeAny_mono (code_set_led1 (.ref l) (E := E) (Q₁ := fun obj s₁ => obj = .ref s.heap.objs.size ∧ s₁ = { s with heap := s.heap.push (eSet w) }) ⟨rfl, rfl⟩) fun r s₁ hr => ?_
  cases r with
  | error e => exact hr
  | ok fl =>
    cases fl with
    | ret obj =>
      obtain ⟨rfl, rfl⟩ := hr
      have hS : (s.heap.push (eSet w)).get? s.heap.objs.size = some (eSet w) := Heap.get?_push_size _ rfl
      have hT : Shared.TypeIs { s with heap := s.heap.push (eSet w) } (.ref s.heap.objs.size) "set" := ⟨_, hS, rfl⟩
      have hli := F.called_set.init.lookup
      have hbi := F.called_set.init.bind (.ref s.heap.objs.size)
      repeat (any_goals (first | assumption | wp_step))
      refine codeAny_mono (codeAny_call_builtin (R := wants (fun r s₂ => r = .none ∧ ∃ h' tk c, s₂ = { s with heap := h', toks := tk } ∧ Filled w s ns h' c) E) F.called_set.init.plain F.entry_set_init (check_set_init_1 hT ?_)) fun r₂ s₂ hr₂ => ?_
      · have hl1 : (s.heap.push (eSet w)).IsList l items := hl.push _
        obtain ⟨⟨ocls, odict, odata, oslots⟩, hol, hcl, nl, hdl⟩ := hl1
        simp only at hcl hdl
        subst hcl; subst hdl
        have hl1 : (s.heap.push (eSet w)).IsList l items := ⟨_, hol, rfl, nl, rfl⟩
        have hsls := F.sub_list_set
        have hslf := F.sub_list_frozenset
        have hne : (Value.type "list" == Value.type "dict") = false := by decide
        unfold Builtin.«set.__init__» noKeywords Builtin.Frozenset.updateFrom
        generalize hPI : pyIter = PI
        wp_walk
        subst hPI
        refine wpAny_pyIter_list hl1 ?_
        refine wpAny_bind (wpAny_runValue ?_)
        have hh3 : A.in1.in1.in1.handled = none := by simp [hh]
        have hneI : l ≠ (s.heap.push (eSet w)).objs.size := by
          rw [Heap.size_push]; exact Nat.ne_of_lt (Nat.lt_succ_of_lt hlS)
        have hSf : s.heap.objs.size ∉ [(s.heap.push (eSet w)).objs.size, l] := by
          rw [Heap.size_push]
          simp only [List.mem_cons, List.not_mem_nil, or_false, not_or]
          exact ⟨Nat.ne_of_lt (Nat.lt_succ_self _), Nat.ne_of_gt hlS⟩
        have hval : ∀ (i : Nat) (v : Value), items[i]? = some v → ∃ k t, ns[i]? = some k ∧ v = .int k t := fun i v hv => by
          have hi : i < ns.length := by rw [← hisz]; exact (Array.getElem?_eq_some_iff.mp hv).1
          obtain ⟨t, e⟩ := PyProof.Rows.IntsAre.int_at hit i v (by rw [Array.getElem?_toList]; exact hv)
          refine ⟨ns[i], t, List.getElem?_eq_getElem hi, ?_⟩
          rw [e, List.getD_eq_getElem?_getD, List.getElem?_eq_getElem hi] <;> rfl
        refine set_update_ints ((Walks.list hh3 _ l hneI items).toS) s.heap.objs.size hSf ns hisz hb hval (items.size - 0) 0 _ (by omega) (Nat.zero_le _)
          ⟨⟨_, Heap.get?_push_size _ rfl, rfl, rfl⟩, (hl1.push _)⟩ ⟨0, Nat.le_refl 0, setR_new_at (Heap.get?_push_of_some _ hS)⟩ ?_
        rintro ⟨h', g2, d', tk', os'⟩ c' hm hc' hS'
        have eg : g2 = s.gens := hm.gens
        have ed : d' = s.drawn := hm.drawn
        have eo : os' = s.os := hm.os
        subst eg; subst ed; subst eo
        show wpAny _ _ _ _ _ _
        refine wpAny_pure ?_
        show wpAny _ _ (ret Value.none) _ _ _
        refine wpAny_pure ⟨rfl, h', tk', c', rfl, hS', by omega, fun b o e => ?_⟩
        have hb0 : b < s.heap.objs.size := Heap.lt_size e
        refine hm.heap b o ?_ (Heap.get?_push_of_some _ (Heap.get?_push_of_some _ e))
        rw [Heap.size_push]
        simp only [List.mem_cons, List.not_mem_nil, or_false, not_or]
        exact ⟨Nat.ne_of_lt hb0, Nat.ne_of_lt (Nat.lt_succ_of_lt hb0)⟩
      · cases r₂ with
        | error e => exact hr₂
        | ok fl₂ =>
          cases fl₂ with
          | ret r =>
            obtain ⟨rfl, h', tk, c', rfl, hf⟩ := hr₂
            repeat (any_goals (first | assumption | wp_step))
            exact h _ _ _ hf
          | _ => exact hr₂.elim
    | _ => exact hr.elim
end
section
variable {X : Cx}
/-- set(xs) of a list of ints: its members, and at most as many as there are rows -/
def rSetI (K : PySem.W.Frag) (w : World) : List V → Hp → VK → Prop := fun xs H Q => ∃ (l : Addr) (ns : List Int), xs = [V.ref l] ∧ SqL K H l (ns.map V.int) ∧ ns.length + 1 < scanBound ∧
  ∀ (p : Addr) (c : Nat), c ≤ ns.length → H p = none → Q (.ref p) (upd H p (SetO w p (fun j => decide (j ∈ ns)) c))
theorem cr_setI (hc : X.calm = true) : CallR X (.type "set") (rSetI X.K X.w) := by
  intro pins s σ H xs us Q I r h
  obtain ⟨l, ns, rfl, hl, hb, q⟩ := h
  rw [Vals.ref1 r]
  obtain ⟨its, rv, pl, hz⟩ := I.list hl
  have hn : H s.heap.objs.size = none := I.hok.fresh (Nat.le_refl _)
  refine set_listI ns (I.ok.hd hc) pl.isList (by simpa using ints_of_vals rv) hb fun h' tk c hf => ?_
  exact ⟨.ref s.heap.objs.size, upd H s.heap.objs.size (SetO X.w s.heap.objs.size (fun j => decide (j ∈ ns)) c), I.laid (t' := tk) hf.2.2 (Nat.le_refl _) (setO_new hf.1), rfl, q _ c hf.2.1 hn⟩
end
end L2

set_option Elab.async false
set_option linter.all false
set_option maxRecDepth 100000
set_option maxHeartbeats 2000000
/-! list(zip(xs, ys)) of two lists -/
namespace Zl
open PySem PySem.Calls PyProof.Rows PyProof.V PySem.Spec PySem.W
/-- the addresses as hold the pairs so far -/
structure PairsG (xs ys : Array Value) (lo : Addr) (h : Heap) (as : List Addr) : Prop where
  rise : as.Pairwise (· < ·)
  above : ∀ a ∈ as, lo < a
  pairs : ∀ (j : Nat) (a : Addr), as[j]? = some a → ∃ x y, xs[j]? = some x ∧ ys[j]? = some y ∧ IsPair h a x y
theorem PairsG.there {xs ys : Array Value} {lo : Addr} {h : Heap} {as : List Addr} (g : PairsG xs ys lo h as) {a : Addr} (ha : a ∈ as) : a < h.objs.size := by
  obtain ⟨j, hj⟩ := List.mem_iff_getElem?.mp ha
  obtain ⟨_, _, _, _, e⟩ := g.pairs j a hj
  exact Heap.lt_size e
/-- the zip under way, its list at S -/
def ZSt (z TI TO i1 i2 l1 l2 S : Addr) (xs ys : Array Value) (i : Nat) (h : Heap) : Prop :=
  IsPair h TI (.ref i1) (.ref i2) ∧ h.IsListIter i1 l1 i ∧ h.IsListIter i2 l2 i ∧ h.IsList l1 xs ∧ h.IsList l2 ys ∧
    ((IsZip h z TI TO .none ∧ ∃ a b, IsPair h TO a b) ∨ ∃ T f oT, IsZipHeld h z TI TO T f ∧ h.get? T = some oT ∧ T ≠ z ∧ T ≠ i1 ∧ T ≠ i2 ∧ T ≠ S)
structure Off (z TI TO i1 i2 l1 l2 S : Addr) : Prop where
  z : z < S
  TI : TI < S
  TO : TO < S
  i1 : i1 < S
  i2 : i2 < S
  l1 : l1 < S
  l2 : l2 < S
section
variable {prog : Program} {w : World} {A : Around} {E : Value → Shared → Prop} {s : Shared} {z TI TO i1 i2 l1 l2 S : Addr} {xs ys : Array Value}
theorem ZSt.push {h h' : Heap} {i : Nat} (O : Off z TI TO i1 i2 l1 l2 S) (st : ZSt z TI TO i1 i2 l1 l2 S xs ys i h) (hk : ∀ b o, b ≠ S → h.get? b = some o → h'.get? b = some o) : ZSt z TI TO i1 i2 l1 l2 S xs ys i h' := by
  obtain ⟨hTI, h1, h2, hl1, hl2, hz⟩ := st
  refine ⟨hk _ _ (Nat.ne_of_lt O.TI) hTI, h1.at fun o e => hk _ o (Nat.ne_of_lt O.i1) e, h2.at fun o e => hk _ o (Nat.ne_of_lt O.i2) e, hl1.at fun o e => hk _ o (Nat.ne_of_lt O.l1) e, hl2.at fun o e => hk _ o (Nat.ne_of_lt O.l2) e, ?_⟩
  rcases hz with ⟨hz, a, b, hTO⟩ | ⟨T, f, oT, hz, hT, r1, r2, r3, r4⟩
  · exact .inl ⟨hk _ _ (Nat.ne_of_lt O.z) hz, a, b, hk _ _ (Nat.ne_of_lt O.TO) hTO⟩
  · exact .inr ⟨T, f, oT, hk _ _ (Nat.ne_of_lt O.z) hz, hk _ _ r4 hT, r1, r2, r3, r4⟩
theorem zl_item {i : Nat} {x y : Value} {Q : Option Value → Shared → Prop} (D : ZipApart z TI TO i1 i2 l1 l2) (st : ZSt z TI TO i1 i2 l1 l2 S xs ys i s.heap) (hS : S < s.heap.objs.size) (hx : xs[i]? = some x) (hy : ys[i]? = some y)
    (hQ : ∀ h', ZSt z TI TO i1 i2 l1 l2 S xs ys (i + 1) h' → IsPair h' s.heap.objs.size x y → h'.objs.size = s.heap.objs.size + 1 → (∀ b o, b ≠ z → b ≠ TO → b ≠ i1 → b ≠ i2 → s.heap.get? b = some o → h'.get? b = some o) → Q (some (.ref s.heap.objs.size)) { s with heap := h' }) :
    wpAny (model prog w) A (pyNext (.ref z)) Q E s := by
  obtain ⟨hTI, h1, h2, hl1, hl2, hz⟩ := st
  have lt : ∀ {c o}, s.heap.get? c = some o → s.heap.objs.size ≠ c := fun e => Nat.ne_of_gt (Heap.lt_size e)
  have n1 : s.heap.objs.size ≠ i1 := let ⟨_, e, _⟩ := h1; lt e
  have n2 : s.heap.objs.size ≠ i2 := let ⟨_, e, _⟩ := h2; lt e
  rcases hz with ⟨hz, a, b, hTO⟩ | ⟨T, f, oT, hz, hT, r1, r2, r3, r4⟩
  · refine wpAny_pyNext_zip_item D hz hTI hTO h1 h2 hl1 hl2 hx hy fun h' a1 a2 a3 a4 a5 a6 hk => ?_
    exact hQ h' ⟨hk _ _ D.TIz D.TITO D.TIi1 D.TIi2 hTI, a3, a4, hl1.at fun o e => hk _ o D.l1z D.l1TO D.l1i1 D.l1i2 e, hl2.at fun o e => hk _ o D.l2z D.l2TO D.l2i1 D.l2i2 e,
      .inr ⟨s.heap.objs.size, false, _, a1, a5, lt hz, n1, n2, Nat.ne_of_gt hS⟩⟩ a5 a6 hk
  · refine wpAny_pyNext_zip_item_held D hz hT hTI h1 h2 hl1 hl2 hx hy fun h' a1 a3 a4 a5 a6 hk => ?_
    exact hQ h' ⟨hk _ _ D.TIz D.TIi1 D.TIi2 hTI, a3, a4, hl1.at fun o e => hk _ o D.l1z D.l1i1 D.l1i2 e, hl2.at fun o e => hk _ o D.l2z D.l2i1 D.l2i2 e,
      .inr ⟨T, true, oT, a1, hk _ _ r1 r2 r3 hT, r1, r2, r3, r4⟩⟩ a5 a6 fun b o c1 _ c3 c4 e => hk b o c1 c3 c4 e
theorem zl_done {i : Nat} {Q : Option Value → Shared → Prop} (hh : A.handled = none) (D : ZipApart z TI TO i1 i2 l1 l2) (st : ZSt z TI TO i1 i2 l1 l2 S xs ys i s.heap) (hend : xs[i]? = none ∨ ys[i]? = none)
    (hQ : ∀ h', (∀ b o, b ≠ z → b ≠ TO → b ≠ i1 → b ≠ i2 → s.heap.get? b = some o → h'.get? b = some o) → Q none { s with heap := h' }) :
    wpAny (model prog w) A (pyNext (.ref z)) Q E s := by
  obtain ⟨hTI, h1, h2, hl1, hl2, hz⟩ := st
  rcases hz with ⟨hz, a, b, hTO⟩ | ⟨T, f, oT, hz, hT, r1, r2, r3, r4⟩
  · exact wpAny_pyNext_zip_end hh D hz hTI hTO h1 h2 hl1 hl2 hend fun h' hk => hQ h' hk
  · exact wpAny_pyNext_zip_end_held hh D hz hT hTI h1 h2 hl1 hl2 hend fun h' hk => hQ h' fun b o c1 _ c3 c4 e => hk b o c1 c3 c4 e
end
section
variable {prog : Program} {w : World} {A : Around} {s : Shared} {R : Result → Shared → Prop} {z TI TO i1 i2 l1 l2 S : Addr} {xs ys : Array Value}
theorem zl_loop (hh : A.handled = none) (D : ZipApart z TI TO i1 i2 l1 l2) (O : Off z TI TO i1 i2 l1 l2 S) (hxy : xs.size = ys.size) (hn : xs.size ≤ sizeLine) (res : Value) {h₁ : Heap}
    (hR : ∀ h' tk acc c as, (∀ b o, b ≠ S → b ≠ z → b ≠ TO → b ≠ i1 → b ≠ i2 → h₁.get? b = some o → h'.get? b = some o) → h'.get? S = some { cls := .type "list", dict := none, data := .seq acc c, slots := #[] } → as.length = xs.size → PairsG xs ys S h' as →
      acc.toList = as.map Value.ref → R (.ok (.ret res)) { s with heap := h', toks := tk }) :
    ∀ (k i : Nat) (h : Heap) (tk c : Nat) (acc : Array Value) (as : List Addr), xs.size - i = k → i ≤ xs.size → ZSt z TI TO i1 i2 l1 l2 S xs ys i h → (∀ b o, b ≠ S → b ≠ z → b ≠ TO → b ≠ i1 → b ≠ i2 → h₁.get? b = some o → h.get? b = some o) →
      h.get? S = some { cls := .type "list", dict := none, data := .seq acc c, slots := #[] } → acc.toList = as.map Value.ref → as.length = i → PairsG xs ys S h as →
      codeAny (model prog w) A (.builtin "list.extend.loop" ⟨[.ref S, .ref z, res], []⟩) R { s with heap := h, toks := tk } := by
  intro k
  induction k with
  | zero =>
    intro i h tk c acc as hk hi hst hkeep hS hacc hal hG
    have hin : i = xs.size := by omega
    refine codeAny_builtin PySem.F.entry_extend_loop ?_
    rw [Around.under_plainId PySem.F.plain_extend_loop _]
    show wpAny _ A.in1 (pyNext (.ref z) >>= _) _ _ _
    refine wpAny_bind (zl_done (s := { s with heap := h, toks := tk }) (A := A.in1) hh D hst (.inl (Array.getElem?_eq_none (by omega))) fun h' he => ?_)
    refine wpAny_pure (hR h' tk acc c as (fun b o h0 h1 h2 h3 h4 e => he b o h1 h2 h3 h4 (hkeep b o h0 h1 h2 h3 h4 e)) (he S _ (Nat.ne_of_gt O.z) (Nat.ne_of_gt O.TO) (Nat.ne_of_gt O.i1) (Nat.ne_of_gt O.i2) hS) (by omega) ⟨hG.rise, hG.above, fun j a hj => ?_⟩ hacc)
    obtain ⟨x, y, e1, e2, e3⟩ := hG.pairs j a hj
    have ab := hG.above a (List.mem_of_getElem? hj)
    exact ⟨x, y, e1, e2, he a _ (Nat.ne_of_gt (Nat.lt_trans O.z ab)) (Nat.ne_of_gt (Nat.lt_trans O.TO ab)) (Nat.ne_of_gt (Nat.lt_trans O.i1 ab)) (Nat.ne_of_gt (Nat.lt_trans O.i2 ab)) e3⟩
  | succ k ih =>
    intro i h tk c acc as hk hi hst hkeep hS hacc hal hG
    have hlt : i < xs.size := by omega
    have hlt2 : i < ys.size := by omega
    have hsz : acc.size = i := by rw [← Array.length_toList, hacc, List.length_map, hal]
    refine codeAny_builtin PySem.F.entry_extend_loop ?_
    rw [Around.under_plainId PySem.F.plain_extend_loop _]
    show wpAny _ A.in1 (pyNext (.ref z) >>= _) _ _ _
    have hSl : S < h.objs.size := Heap.lt_size hS
    refine wpAny_bind (zl_item (s := { s with heap := h, toks := tk }) D hst hSl (Array.getElem?_eq_getElem hlt) (Array.getElem?_eq_getElem hlt2) fun h' hst' ht hz hkp => ?_)
    dsimp only at ht hz hkp ⊢
    have hS' := hkp S _ (Nat.ne_of_gt O.z) (Nat.ne_of_gt O.TO) (Nat.ne_of_gt O.i1) (Nat.ne_of_gt O.i2) hS
    have up : ∀ b o, b ≠ S → h'.get? b = some o → (h'.update S (Obj.mapSeq (·.push (Value.ref h.objs.size)))).get? b = some o := fun b o hb e => (Heap.get?_update_other _ _ (Ne.symm hb)).trans e
    show wpAny _ A.in1 (updateSeq S (·.push (Value.ref h.objs.size)) >>= _) _ _ _
    refine wpAny_bind ?_
    refine wpAny_updateSeq hS' rfl (wpAny_pure ⟨plainId_quiet PySem.F.plain_extend_loop _, ih (i + 1) _ tk _ (acc.push (Value.ref h.objs.size)) (as ++ [h.objs.size]) (by omega) hlt (hst'.push O up)
      (fun b o h0 h1 h2 h3 h4 e => up b o h0 (hkp b o h1 h2 h3 h4 (hkeep b o h0 h1 h2 h3 h4 e))) (Heap.get?_update_self _ hS' rfl) (by rw [Array.toList_push, hacc, List.map_append]; rfl) (by rw [List.length_append, hal]; rfl) ⟨?_, ?_, ?_⟩⟩) (by rw [hsz]; omega) (by show (acc.push (Value.ref h.objs.size)).size ≤ sizeLine + 1; rw [Array.size_push, hsz]; omega)
    · refine List.pairwise_append.mpr ⟨hG.rise, List.pairwise_singleton _ _, fun a ha b hb => ?_⟩
      rw [List.mem_singleton.mp hb]
      exact hG.there ha
    · intro a ha
      rcases List.mem_append.mp ha with ha | ha
      · exact hG.above a ha
      · rw [List.mem_singleton.mp ha]; exact hSl
    · intro j b hj
      rcases Nat.lt_trichotomy j as.length with h1 | h1 | h1
      · rw [List.getElem?_append_left h1] at hj
        obtain ⟨x, y, e1, e2, e3⟩ := hG.pairs j b hj
        have ab := hG.above b (List.mem_of_getElem? hj)
        exact ⟨x, y, e1, e2, up b _ (Nat.ne_of_gt ab) (hkp b _ (Nat.ne_of_gt (Nat.lt_trans O.z ab)) (Nat.ne_of_gt (Nat.lt_trans O.TO ab)) (Nat.ne_of_gt (Nat.lt_trans O.i1 ab)) (Nat.ne_of_gt (Nat.lt_trans O.i2 ab)) e3)⟩
      · subst h1
        have hb : h.objs.size = b := by simpa using hj
        subst hb
        subst hal
        exact ⟨_, _, Array.getElem?_eq_getElem hlt, Array.getElem?_eq_getElem hlt2, up _ _ (Nat.ne_of_gt hSl) ht⟩
      · have hnone : (as ++ [h.objs.size])[j]? = none := List.getElem?_eq_none (by rw [List.length_append, List.length_singleton]; omega)
        rw [hnone] at hj; cases hj
end
theorem zip_no_len : typeLookup (.type "zip") "__len__" = pure none := by rw [typeLookup_type, builtinLookup_eq_fast]; kernel_rfl
theorem zip_no_hint : typeLookup (.type "zip") "__length_hint__" = pure none := by rw [typeLookup_type, builtinLookup_eq_fast]; kernel_rfl
section
variable {prog : Program} {w : World} {A : Around} {E : Value → Shared → Prop} {s : Shared} {z TI TO i1 i2 l1 l2 : Addr} {xs ys : Array Value}
theorem zl_extend {R : Result → Shared → Prop} (hh : A.handled = none) (S : Addr) (D : ZipApart z TI TO i1 i2 l1 l2) (O : Off z TI TO i1 i2 l1 l2 S) (hxy : xs.size = ys.size) (hn : xs.size ≤ sizeLine) (hst : ZSt z TI TO i1 i2 l1 l2 S xs ys 0 s.heap) (hzz : IsZip s.heap z TI TO .none) (res : Value) (c₀ : Nat) (hS : s.heap.get? S = some { cls := .type "list", data := .seq #[] c₀ })
    (hR : ∀ h' tk acc c as, (∀ b o, b ≠ S → b ≠ z → b ≠ TO → b ≠ i1 → b ≠ i2 → s.heap.get? b = some o → h'.get? b = some o) → h'.get? S = some { cls := .type "list", dict := none, data := .seq acc c, slots := #[] } → as.length = xs.size → PairsG xs ys S h' as →
      acc.toList = as.map Value.ref → R (.ok (.ret res)) { s with heap := h', toks := tk }) :
    wpAny (model prog w) A.in1 (Builtin.List.listExtendWith (.ref S) (.ref z) res)
      (fun fin s' => match fin with | .done f => R (.ok f) s' | .again c' => c'.quiet = true ∧ codeAny (model prog w) A c' R s') (fun e s' => R (.error e) s') s := by
  have hT : s.TypeIs (.ref z) "zip" := ⟨_, hzz, rfl⟩
  have hSz : S ≠ z := Nat.ne_of_gt O.z
  unfold Builtin.List.listExtendWith
  refine wpAny_bind (wpAny_typeOf hT ?_)
  have h1 : Builtin.List.listSameRef (.ref S) (.ref z) = false := by simp [Builtin.List.listSameRef, hSz]
  have h2 : (Value.type "zip" == Value.type "list") = false := by decide
  have h3 : (Value.type "zip" == Value.type "tuple") = false := by decide
  simp only [h1, h2, h3, Bool.or_false, Bool.false_eq_true, if_false]
  refine wpAny_bind (wpAny_pyIter_zip hzz ?_)
  refine wpAny_bind (wpAny_holding ?_)
  unfold Builtin.List.listLengthHint
  refine wpAny_bind (wpAny_specialOf hT zip_no_len ?_)
  show wpAny _ A.in1 (specialOf (Value.ref z) (Str.ofString "__length_hint__") >>= _) _ _ _
  refine wpAny_bind (wpAny_specialOf hT zip_no_hint ?_)
  refine wpAny_pure ?_
  show wpAny _ A.in1 (rule "list.extend.makes-room" >>= fun _ => Builtin.List.listTouch (.ref S) >>= fun _ =>
    again (.builtin "list.extend.loop" ⟨[.ref S, .ref z, res], []⟩)) _ _ _
  refine wpAny_bind (wpAny_rule ?_)
  refine wpAny_bind ?_
  show wpAny _ A.in1 (updateSeq S (·.push .none) >>= fun _ => updateSeq S (·.pop)) _ _ _
  refine wpAny_bind (wpAny_updateSeq hS rfl ?_)
  have hS₂ := Heap.get?_update_self (Obj.mapSeq (·.push Value.none)) hS rfl
  refine wpAny_updateSeq (hz := by seq_fits) hS₂ rfl ?_
  have hS₃ := Heap.get?_update_self (Obj.mapSeq (·.pop)) hS₂ rfl
  have oth : ∀ b o, b ≠ S → s.heap.get? b = some o → ((s.heap.update S (Obj.mapSeq (·.push Value.none))).update S (Obj.mapSeq (·.pop))).get? b = some o :=
    fun b o hb e => (Heap.get?_update_other _ _ (Ne.symm hb)).trans ((Heap.get?_update_other _ _ (Ne.symm hb)).trans e)
  refine wpAny_pure ⟨plainId_quiet F.plain_extend_loop _, zl_loop (s := s) (h₁ := s.heap) hh D O hxy hn res hR (xs.size - 0) 0 _ _ _ _ [] rfl (Nat.zero_le _) (hst.push O oth) (fun b o h0 _ _ _ _ e => oth b o h0 e) hS₃ rfl rfl ⟨.nil, by simp, fun j a h => by simp at h⟩⟩
theorem zl_call {Q : Value → Shared → Prop} (hh : A.handled = none) (D : ZipApart z TI TO i1 i2 l1 l2) (hlt : z < s.heap.objs.size ∧ TI < s.heap.objs.size ∧ TO < s.heap.objs.size ∧ i1 < s.heap.objs.size ∧ i2 < s.heap.objs.size ∧ l1 < s.heap.objs.size ∧ l2 < s.heap.objs.size) (hxy : xs.size = ys.size) (hn : xs.size ≤ sizeLine)
    (hTI : IsPair s.heap TI (.ref i1) (.ref i2)) (h1 : s.heap.IsListIter i1 l1 0) (h2 : s.heap.IsListIter i2 l2 0) (hl1 : s.heap.IsList l1 xs) (hl2 : s.heap.IsList l2 ys) (hz : IsZip s.heap z TI TO .none) (hTO : ∃ a b, IsPair s.heap TO a b)
    (hQ : ∀ h' tk acc c as, (∀ b o, b ≠ z → b ≠ TO → b ≠ i1 → b ≠ i2 → s.heap.get? b = some o → h'.get? b = some o) → h'.get? s.heap.objs.size = some { cls := .type "list", dict := none, data := .seq acc c, slots := #[] } → as.length = xs.size → PairsG xs ys s.heap.objs.size h' as →
      acc.toList = as.map Value.ref → Q (.ref s.heap.objs.size) { s with heap := h', toks := tk }) :
    wpAny (model prog w) A (call (.type "list") [.ref z]) Q E s := by
  refine callType_codes (Q₁ := fun obj s₁ => obj = .ref s.heap.objs.size ∧ s₁ = { s with heap := s.heap.push { cls := .type "list", data := .seq #[] } }) PySem.F.called_list (PySem.F.typeCall_list_1 _) PySem.F.entry_list_init
    (code_list_new _ ⟨rfl, rfl⟩) fun obj s₁ h₁ => ?_
  obtain ⟨rfl, rfl⟩ := h₁
  have hS : (s.heap.push { cls := .type "list", data := .seq #[] }).get? s.heap.objs.size = some { cls := .type "list", data := .seq #[] } := Heap.get?_push_size _ rfl
  obtain ⟨g1, g2, g3, g4, g5, g6, g7⟩ := hlt
  have O : Off z TI TO i1 i2 l1 l2 s.heap.objs.size := ⟨g1, g2, g3, g4, g5, g6, g7⟩
  have up : ∀ b o, s.heap.get? b = some o → (s.heap.push { cls := .type "list", data := .seq #[] }).get? b = some o := fun b o e => Heap.get?_push_of_some _ e
  have hst : ZSt z TI TO i1 i2 l1 l2 s.heap.objs.size xs ys 0 s.heap := ⟨hTI, h1, h2, hl1, hl2, .inl ⟨hz, hTO⟩⟩
  refine ⟨⟨_, hS, rfl⟩, PySem.F.args_list_init_2 _ _, ?_⟩
  show wpAny _ _ (do let old ← Builtin.List.listItems (.ref s.heap.objs.size); Builtin.List.listUpdate (.ref s.heap.objs.size) (fun _ => #[]); letGo old.toList.reverse; Builtin.List.listExtendWith (.ref s.heap.objs.size) (.ref z) .none) _ _ _
  refine wpAny_bind ?_
  unfold Builtin.List.listItems
  refine wpAny_bind (wpAny_seqItems hS rfl (wpAny_pure ?_))
  show wpAny _ _ (updateSeq s.heap.objs.size (fun _ => #[]) >>= fun _ => letGo (#[] : Array Value).toList.reverse >>= fun _ => Builtin.List.listExtendWith (.ref s.heap.objs.size) (.ref z) .none) _ _ _
  refine wpAny_bind (wpAny_updateSeq hS rfl ?_)
  have hS₂ := Heap.get?_update_self (Obj.mapSeq (fun _ => (#[] : Array Value))) hS rfl
  have oth : ∀ b o, b ≠ s.heap.objs.size → s.heap.get? b = some o → ((s.heap.push { cls := .type "list", data := .seq #[] }).update s.heap.objs.size (Obj.mapSeq (fun _ => (#[] : Array Value)))).get? b = some o :=
    fun b o hb e => (Heap.get?_update_other _ _ (Ne.symm hb)).trans (up b o e)
  refine wpAny_bind (wpAny_letGo ?_)
  refine zl_extend (A := A.in1) hh _ D O hxy hn (hst.push O oth) (oth _ _ (Nat.ne_of_lt g1) hz) .none _ hS₂ fun h' tk acc c as hk hS' hl hG hacc => ?_
  exact ⟨rfl, hQ h' tk acc c as (fun b o b1 b2 b3 b4 e => hk b o (Nat.ne_of_lt (Heap.lt_size e)) b1 b2 b3 b4 (oth b o (Nat.ne_of_lt (Heap.lt_size e)) e)) hS' hl hG hacc⟩
end
end Zl
namespace L2
open PySem PySem.Spec PyProof.Rows
def putP : Hp → List Addr → List V → List V → Hp
  | H, a :: as, x :: xs, y :: ys => putP (upd H a (.tup [x, y])) as xs ys
  | H, _, _, _ => H
theorem putP_off {b : Addr} : ∀ (as : List Addr) (xs ys : List V) (H : Hp), b ∉ as → putP H as xs ys b = H b
  | [], _, _, _, _ => rfl
  | _ :: _, [], _, _, _ => rfl
  | _ :: _, _ :: _, [], _, _ => rfl
  | a :: as, x :: xs, y :: ys, H, h => by
    show putP (upd H a (.tup [x, y])) as xs ys b = H b
    rw [putP_off as xs ys _ (fun z => h (List.mem_cons_of_mem _ z)), upd_ne (fun z => h (by rw [z]; exact List.mem_cons_self))]
theorem putP_at : ∀ (as : List Addr) (xs ys : List V) (H : Hp), as.length = xs.length → xs.length = ys.length → as.Nodup → ∀ (j : Nat) t, as[j]? = some t → ∃ x y, xs[j]? = some x ∧ ys[j]? = some y ∧ putP H as xs ys t = some (.tup [x, y])
  | [], _, _, _, _, _, _, _, _, h => by simp at h
  | _ :: _, [], _, _, h, _, _, _, _, _ => by simp at h
  | _ :: _, _ :: _, [], _, _, h, _, _, _, _ => by simp at h
  | a :: as, x :: xs, y :: ys, H, h1, h2, hn, j, t, ht => by
    have hn' := List.nodup_cons.mp hn
    cases j with
    | zero =>
      simp at ht; subst ht
      refine ⟨x, y, rfl, rfl, ?_⟩
      show putP (upd H a (.tup [x, y])) as xs ys a = _
      rw [putP_off as xs ys _ hn'.1, upd_same]
    | succ j =>
      obtain ⟨x', y', e1, e2, e3⟩ := putP_at as xs ys (upd H a (.tup [x, y])) (Nat.succ.inj h1) (Nat.succ.inj h2) hn'.2 j t (by simpa using ht)
      exact ⟨x', y', by simpa using e1, by simpa using e2, e3⟩
def tListZip (K : PySem.W.Frag) (ta : TA) : TE := fun σ H Q => ta σ H fun vs H1 => ∃ a b xs ys, vs = [V.ref a, .ref b] ∧ SqL K H1 a xs ∧ SqL K H1 b ys ∧ xs.length = ys.length ∧
  ∀ (p : Addr) (ts : List Addr) (H2 : Hp), Same H1 H2 → H1 p = none → H2 p = some (.lst (ts.map V.ref)) → ts.length = xs.length → (∀ (j : Nat) t, ts[j]? = some t → ∃ x y, xs[j]? = some x ∧ ys[j]? = some y ∧ H2 t = some (.tup [x, y])) → Q (.ref p) H2
section
variable {X : Cx}
theorem zip_laid {pins : List (Addr × Obj)} {σ : L2.St} {H : Hp} {s : Shared} {h' : Heap} {tk S : Nat} {xs ys : List V} {us ws : List Value} {acc : Array Value} {c : Nat} {as : List Addr} (I : Inv X pins σ H s) (hz : xs.length ≤ sizeLine) (hxy : xs.length = ys.length) (rx : Vals xs us) (ry : Vals ys ws) (hSS : s.heap.objs.size ≤ S)
    (hk : ∀ b o, s.heap.get? b = some o → h'.get? b = some o) (hS : h'.get? S = some { cls := .type "list", dict := none, data := .seq acc c, slots := #[] }) (hl : as.length = xs.length) (hG : Zl.PairsG us.toArray ws.toArray S h' as) (hacc : acc.toList = as.map Value.ref) :
    ∃ H' : Hp, Same H H' ∧ H S = none ∧ H' S = some (.lst (as.map V.ref)) ∧ (∀ (j : Nat) t, as[j]? = some t → ∃ x y, xs[j]? = some x ∧ ys[j]? = some y ∧ H' t = some (.tup [x, y])) ∧ Inv X pins σ H' { s with heap := h', toks := tk } := by
  have hSn : S ∉ as := fun z => Nat.lt_irrefl _ (hG.above _ z)
  have nd : as.Nodup := List.Pairwise.imp (fun {a b} (h : a < b) => Nat.ne_of_lt h) hG.rise
  have new : ∀ t ∈ as, H t = none := fun t ht => I.hok.fresh (Nat.le_trans hSS (Nat.le_of_lt (hG.above t ht)))
  have newS : H S = none := I.hok.fresh hSS
  have atP := putP_at as xs ys (upd H S (.lst (as.map V.ref))) hl hxy nd
  have off : ∀ b, b ∉ as → b ≠ S → putP (upd H S (.lst (as.map V.ref))) as xs ys b = H b := fun b h1 h2 => by rw [putP_off as xs ys _ h1, upd_ne h2]
  have low : ∀ b o, s.heap.get? b = some o → b ∉ as ∧ b ≠ S := fun b o e => ⟨fun z => absurd (Heap.lt_size e) (Nat.not_lt.mpr (Nat.le_trans hSS (Nat.le_of_lt (hG.above b z)))), Nat.ne_of_lt (Nat.lt_of_lt_of_le (Heap.lt_size e) hSS)⟩
  have kp : ∀ b u, H b = some u → (putP (upd H S (.lst (as.map V.ref))) as xs ys) b = some u := fun b u e => by
    rw [off b (fun z => by rw [new b z] at e; cases e) (fun z => by rw [z, newS] at e; cases e)]
    exact e
  have eS : putP (upd H S (.lst (as.map V.ref))) as xs ys S = some (.lst (as.map V.ref)) := by rw [putP_off as xs ys _ hSn, upd_same]
  refine ⟨putP (upd H S (.lst (as.map V.ref))) as xs ys, kp, newS, eS, atP, ?_⟩
  refine I.call' (ch := []) rfl ⟨fun b o q _ _ _ => hk b o q, fun b o q _ _ _ => ⟨o.slots, hk b o q⟩, fun b o q n _ => ?_, fun b o q _ => ⟨o, hk b o q⟩, fun b xs q => kp b _ q, fun b o u q => kp b _ q, fun b ps q => ⟨#[], by rw [kp b _ q]; simp⟩⟩ (fun b u q => ?_) I.bare fun b z => by simp at z
  · obtain ⟨z1, z2⟩ := low b o q
    rw [off b z1 z2]
    exact n
  · by_cases hb : b ∈ as
    · obtain ⟨j, e1⟩ := List.mem_iff_getElem?.mp hb
      obtain ⟨x, y, e2, e3, e4⟩ := atP j b e1
      rw [e4] at q
      cases q
      obtain ⟨u1, u2, f1, f2, f3⟩ := hG.pairs j b e1
      obtain ⟨v1, g1, g2⟩ := rx.get e2
      obtain ⟨v2, g3, g4⟩ := ry.get e3
      have f1 : us[j]? = some u1 := by simpa using f1
      have f2 : ws[j]? = some u2 := by simpa using f2
      rw [g1] at f1; cases f1
      rw [g3] at f2; cases f2
      exact ⟨by show 2 ≤ sizeLine; decide, [u1, u2], .cons g2 (.cons g4 .nil), ⟨_, f3, rfl, _, rfl⟩⟩
    · by_cases hb2 : b = S
      · rw [hb2] at q ⊢
        rw [eS] at q
        cases q
        refine ⟨by rw [List.length_map]; omega, acc.toList, c, by rw [hacc]; exact LiI.vals_refs as, ?_⟩
        rw [Array.toArray_toList]
        exact hS
      · rw [off b hb hb2] at q
        exact (I.hok b u q).stay (fun d v _ y => hk d v y) (fun d y => kp d _ y) fun d xs y => kp d _ y
theorem pe_listZip {e e2 : Expr} {ta : TA} {p p2 q pos : Pos} (hc : X.calm = true) (hg : Gl X "list") (hm : X.mg "list" = none) (hv : bootBuiltins "list" = some (.type "list")) (hg2 : Gl X "zip") (hm2 : X.mg "zip" = none) (ha : PA X [e, e2] ta)
    (hs : starEach [e, e2] X.env = (false, eval e X.env) :: starEach [e2] X.env := by rfl) (hpl : (backTo q (starEach [e2] X.env)).any (·.1) = false := by rfl) :
    PE X (.Call (.Name "list" p) [.Call (.Name "zip" p2) [e, e2] [] q] [] pos) (tListZip X.K ta) := by
  refine ⟨fun pins s σ H Q I h => ?_⟩
  refine Call_ (ld_blt I hg hm hv ?_)
  refine PyProof.Rows.callWith_type1 (PyProof.Rows.args_cons ?_ rfl) rfl rfl
  refine Call_ (ld_blt I hg2 hm2 PyProof.Rows.boot_zip (PyProof.Rows.callWith_type1 (thn (ha.run q pins s σ H _ I h) fun us s1 ⟨vs, H1, I1, r1, q1⟩ => ?_) hs hpl))
  obtain ⟨a, b, xs, ys, ex, hqx, hqy, hxy, q1⟩ := q1
  subst ex
  cases r1 with
  | cons r rr =>
    cases rr with
    | cons r' rr =>
      cases rr
      cases r
      cases r'
      obtain ⟨its, rv, p1, hz1⟩ := I1.list hqx
      obtain ⟨its2, rv2, pp2, hz2⟩ := I1.list hqy
      have ln1 : xs.length = its.length := rv.length
      have ln2 : ys.length = its2.length := rv2.length
      refine call_zip_2 p1.isList pp2.isList fun h' hz hTI hTO h1 h2 hsz hk => PyProof.Rows.args_nil ?_
      have D := PySem.W.ktu_apart s1.heap.objs.size a b p1.lt pp2.lt
      have la := p1.lt
      have lb := pp2.lt
      refine Zl.zl_call (s := { s1 with heap := h' }) (I1.ok.hd hc) D ?_ (by simp; omega) (by simp; omega) hTI h1 h2 (p1.isList.at fun o e => hk _ o e) (pp2.isList.at fun o e => hk _ o e) hz ⟨_, _, hTO⟩ fun h2' tk acc c as hk2 hS hl hG hacc => ?_
      · have up : ∀ k : Nat, k < s1.heap.objs.size + 5 → k < h'.objs.size := fun k hk => by rw [hsz]; exact hk
        exact ⟨up _ (Nat.add_lt_add_left (by decide) _), up _ (Nat.add_lt_add_left (by decide) _), up _ (Nat.add_lt_add_left (by decide) _), up _ (Nat.lt_add_of_pos_right (by decide)), up _ (Nat.add_lt_add_left (by decide) _), up _ (Nat.lt_add_right _ la), up _ (Nat.lt_add_right _ lb)⟩
      · have hS5 : s1.heap.objs.size ≤ h'.objs.size := by omega
        obtain ⟨H', k1, k2, k3, k4, J⟩ := zip_laid (tk := tk) (S := h'.objs.size) I1 hz1 hxy rv rv2 hS5 (fun b o e => hk2 b o (Nat.ne_of_lt (Nat.lt_add_right _ (Heap.lt_size e))) (Nat.ne_of_lt (Nat.lt_add_right _ (Heap.lt_size e))) (Nat.ne_of_lt (Heap.lt_size e)) (Nat.ne_of_lt (Nat.lt_add_right _ (Heap.lt_size e))) (hk b o e)) hS (by rw [hl]; simp; omega) hG hacc
        exact ⟨.ref _, H', J, rfl, q1 _ as H' k1 k2 k3 (by rw [hl]; simp; omega) k4⟩
end
end L2

set_option Elab.async false
set_option linter.all false
set_option maxRecDepth 100000
namespace L2
open PySem PySem.Spec PyProof.Rows
/-! list + list of lists that are read -/
def rCatQ (K : PySem.W.Frag) : R2 := fun x y H Q => ∃ l b xs zs, x = .ref l ∧ y = .ref b ∧ SqL K H l xs ∧ SqL K H b zs ∧ xs.length + zs.length ≤ sizeLine ∧ ∀ p, H p = none → Q (.ref p) (upd H p (.lst (xs ++ zs)))
theorem op_catQ {X : Cx} : OpR X (binaryOp .Add) (rCatQ X.K) := by
  intro pins s σ H x y v u Q I rx ry h
  obtain ⟨l, b, xs, zs, rfl, rfl, hH, hB, hz, q⟩ := h
  cases rx
  cases ry
  obtain ⟨its, r, pl, z⟩ := I.list hH
  obtain ⟨its2, r2, pl2, z2⟩ := I.list hB
  have hl := r.length
  have hl2 := r2.length
  obtain ⟨⟨cls, dd, data, sl⟩, ho, hc, n, hd⟩ := pl.isList
  obtain ⟨⟨cls2, dd2, data2, sl2⟩, ho2, hc2, n2, hd2⟩ := pl2.isList
  simp only at hc hd hc2 hd2
  subst hc hd hc2 hd2
  refine concat_meets ⟨_, ho, rfl⟩ ⟨_, ho2, rfl⟩ noFill_list_add seq_list_add PySem.F.slot_list_add PySem.F.entry_list_add (PySem.F.args_list_add_2 _ _) (list_addW l b its.toArray its2.toArray n n2 dd dd2 sl sl2 (by simp; omega)) ⟨ho, ho2, ?_⟩
  have ea : its.toArray ++ its2.toArray = (its ++ its2).toArray := by simp
  rw [ea]
  exact ⟨.ref _, _, I.lnew (t' := s.toks) (r.append r2) (by rw [List.length_append]; omega), rfl, q _ I.fresh⟩
end L2
namespace Rd
open PySem PySem.Spec PyProof.Rows L2
variable {K : PySem.W.Frag} {σ : L2.St} {H : Hp} {D : Ends} {Q : VK} {ta tb te tv : TE} {x y v : V} {tr : TA}
def CatQ (K : PySem.W.Frag) (Q : VK) (x y : V) (H : Hp) : Prop := rCatQ K x y H Q
theorem catQI (h : CatQ K Q x y H) : rCatQ K x y H Q := h
theorem catQ {a b : Addr} {xs zs : List V} (h1 : SqL K H a xs) (h2 : SqL K H b zs) (s : xs.length + zs.length ≤ 100000) (h : ∀ p H', H p = none → Same H H' → H' p = some (.lst (xs ++ zs)) → Q (.ref p) H') : CatQ K Q (.ref a) (.ref b) H := ⟨a, b, xs, zs, rfl, rfl, h1, h2, sz s, fun p np => h p _ np (same_new np) upd_same⟩
def RevL (K : PySem.W.Frag) (Q : VK) (x : V) (H : Hp) : Prop := ∃ a xs, x = .ref a ∧ SqL K H a xs ∧ ∀ p, H p = none → Q (.ref p) (upd H p (.lst xs.reverse))
theorem revN (h : te σ H (RevL K Q)) : tRevL K te σ H Q := h
theorem revq {a : Addr} {xs : List V} (s : SqL K H a xs) (h : ∀ p H', H p = none → Same H H' → H' p = some (.lst xs.reverse) → Q (.ref p) H') : RevL K Q (.ref a) H := ⟨a, xs, rfl, s, fun p np => h p _ np (same_new np) upd_same⟩
theorem ext {l b : Addr} {xs zs : List V} (h : H l = some (.lst xs)) (hb : H b = some (.lst zs)) (s : xs.length + zs.length ≤ 100000) (q : Q .non (upd H l (.lst (xs ++ zs)))) : rExtend (.ref l) [.ref b] H Q := ⟨l, b, xs, zs, rfl, rfl, h, hb, sz s, q⟩
def LzG (K : PySem.W.Frag) (Q : VK) (vs : List V) (H1 : Hp) : Prop := ∃ a b xs ys, vs = [V.ref a, .ref b] ∧ SqL K H1 a xs ∧ SqL K H1 b ys ∧ xs.length = ys.length ∧
  ∀ (p : Addr) (ts : List Addr) (H2 : Hp), Same H1 H2 → H1 p = none → H2 p = some (.lst (ts.map V.ref)) → ts.length = xs.length → (∀ (j : Nat) t, ts[j]? = some t → ∃ x y, xs[j]? = some x ∧ ys[j]? = some y ∧ H2 t = some (.tup [x, y])) → Q (.ref p) H2
theorem lzip (h : tr σ H (LzG K Q)) : tListZip K tr σ H Q := h
theorem lz {a b : Addr} {xs ys : List V} (h1 : SqL K H a xs) (h2 : SqL K H b ys) (l : xs.length = ys.length) (q : ∀ (p : Addr) (ts : List Addr) (H2 : Hp), Same H H2 → H p = none → H2 p = some (.lst (ts.map V.ref)) → ts.length = xs.length → (∀ (j : Nat) t, ts[j]? = some t → ∃ x y, xs[j]? = some x ∧ ys[j]? = some y ∧ H2 t = some (.tup [x, y])) → Q (.ref p) H2) : LzG K Q [.ref a, .ref b] H := ⟨a, b, xs, ys, rfl, h1, h2, l, q⟩
end Rd
namespace L2
open PySem PySem.Spec PyProof.Rows
/-- (n1, n2) > (m1, m2) -/
def rGtP (K : PySem.W.Frag) : R2 := fun x y H Q => ∃ (a b : Addr) (n1 n2 m1 m2 : Int), x = .ref a ∧ y = .ref b ∧ SqT K H a [.int n1, .int n2] ∧ SqT K H b [.int m1, .int m2] ∧ Q (.bl (decide (m1 < n1 ∨ (n1 = m1 ∧ m2 < n2)))) H
theorem op_gtP {X : Cx} (hu : X.A.units < cLine) : OpR X (compareOp .Gt) (rGtP X.K) := by
  intro pins s σ H x y v u Q I rx ry h
  obtain ⟨a, b, n1, n2, m1, m2, rfl, rfl, ha, hb, q⟩ := h
  cases rx
  cases ry
  obtain ⟨its, r1, p1, _⟩ := I.tuple ha
  obtain ⟨its2, r2, p2, _⟩ := I.tuple hb
  have i1 : IntsAre its [n1, n2] := Vals.ints (ns := [n1, n2]) r1
  have i2 : IntsAre its2 [m1, m2] := Vals.ints (ns := [m1, m2]) r2
  have e1 : its.toArray.size = 2 := by rw [List.size_toArray]; exact i1.length
  have e2 : its2.toArray.size = 2 := by rw [List.size_toArray]; exact i2.length
  have at1 : ∀ j (h1 : j < its.toArray.size), ∃ t, its.toArray[j] = .int ([n1, n2].getD j 0) t := fun j h1 => PyProof.Rows.IntsAre.int_at i1 _ _ (by simp at h1; simp [h1])
  have at2 : ∀ j (h1 : j < its2.toArray.size), ∃ t, its2.toArray[j] = .int ([m1, m2].getD j 0) t := fun j h1 => PyProof.Rows.IntsAre.int_at i2 _ _ (by simp at h1; simp [h1])
  have R := Ob.RcOp.tuples_gt (A := X.A) (s := s) (e := fun j => decide ([n1, n2].getD j 0 = [m1, m2].getD j 0)) (r := fun j => decide ([m1, m2].getD j 0 < [n1, n2].getD j 0)) p1 p2 hu (fun j h1 h2 => by
    obtain ⟨t, et⟩ := at1 j h1
    obtain ⟨t', et'⟩ := at2 j h2
    rw [et, et']
    have z : ([n1, n2].getD j 0 == [m1, m2].getD j 0) = decide ([n1, n2].getD j 0 = [m1, m2].getD j 0) := by
      by_cases q : [n1, n2].getD j 0 = [m1, m2].getD j 0
      · rw [decide_eq_true q]; exact beq_iff_eq.mpr q
      · rw [decide_eq_false q]; exact beq_eq_false_iff_ne.mpr q
    rw [← z]
    exact SeqAt.EqAt.int_int _ _ _ _) (fun j h1 h2 _ => by
    obtain ⟨t, et⟩ := at1 j h1
    obtain ⟨t', et'⟩ := at2 j h2
    rw [et, et']
    exact Ob.RcOp.gt_int _ _ _ _)
  rw [e1, e2] at R
  have ev : Ob.lexAt (fun j => decide ([n1, n2].getD j 0 = [m1, m2].getD j 0)) (fun j => decide ([m1, m2].getD j 0 < [n1, n2].getD j 0)) (decide (2 > 2)) 0 (min 2 2) = decide (m1 < n1 ∨ (n1 = m1 ∧ m2 < n2)) := by
    show Ob.lexAt _ _ _ 0 2 = _
    rw [Ob.lexAt_succ, Ob.lexAt_succ, Ob.lexAt_zero]
    show (if decide (n1 = m1) = true then (if decide (n2 = m2) = true then decide (2 > 2) else decide (m2 < n2)) else decide (m1 < n1)) = _
    by_cases h1 : n1 = m1
    · rw [if_pos (decide_eq_true h1)]
      by_cases h2 : n2 = m2
      · rw [if_pos (decide_eq_true h2)]
        exact (decide_eq_false (by omega)).trans (decide_eq_false (by omega)).symm
      · rw [if_neg (by simp [h2])]
        exact decide_eq_decide.mpr (by omega)
    · rw [if_neg (by simp [h1])]
      exact decide_eq_decide.mpr (by omega)
  exact R _ _ _ _ ⟨.bl _, H, I, rfl, by rw [ev]; exact q⟩
end L2
namespace Rd
open PySem PySem.Spec PyProof.Rows L2
theorem gtP {K : PySem.W.Frag} {H : Hp} {Q : VK} {a b : Addr} {n1 n2 m1 m2 : Int} (h1 : H a = some (.tup [.int n1, .int n2])) (h2 : H b = some (.tup [.int m1, .int m2])) (q : Q (.bl (decide (m1 < n1 ∨ (n1 = m1 ∧ m2 < n2)))) H) : rGtP K (.ref a) (.ref b) H Q := ⟨a, b, n1, n2, m1, m2, rfl, rfl, SqT.of h1, SqT.of h2, q⟩
theorem glst {K : PySem.W.Frag} {H : Hp} {σ : L2.St} {p : Addr} {xs : List V} {n : Nat} {f : TGs} {Q : L2.St → Hp → Prop} (h : H p = some (.lst xs)) (l : xs.length = n) (q : f xs σ H Q) : gLst K n f (.ref p) σ H Q := ⟨p, xs, rfl, SqL.of h, l, q⟩
end Rd
namespace Rd
open PySem PySem.Spec PyProof.Rows L2
theorem revR1 {te : TE} {σ : L2.St} {H : Hp} {R : It → Hp → Prop} (h : te σ H fun x H1 => ∃ n, x = .int n ∧ (-(2 ^ 62) ≤ (0 : Int) ∧ (0 : Int) < 2 ^ 62 ∧ -(2 ^ 62) ≤ n ∧ n < 2 ^ 62 ∧ R (Itc ((0 : Int) + (((n - 0).toNat : Nat) : Int) - 1) (-1) (n - 0).toNat) H1)) : iRevR (tRg1 te) σ H R := h
end Rd

set_option Elab.async false
set_option linter.all false
set_option maxRecDepth 100000
set_option maxHeartbeats 1000000

--@@rec _copied _copied_statement

namespace Mine
open PySem PySem.Spec PyProof.Rows L2
local macro_rules | `(tactic| walk_at "my rd") => `(tactic| (repeat (first | with_reducible refine Rd.catQI ?_ | with_reducible refine Rd.revN ?_ | with_reducible refine Rd.lzip ?_ | with_reducible refine Rd.fld ?_ | with_reducible refine Rd.sfld ?_ | with_reducible refine Rd.meth ?_ | with_reducible refine Rd.make ?_ | with_reducible refine Rd.izip ?_ | with_reducible refine Rd.seq ?_ | with_reducible refine Rd.next ?_ | with_reducible refine Rd.brk ?_ | with_reducible refine Rd.cont ?_ | with_reducible refine Rd.asg ?_ | with_reducible refine Rd.ret ?_ | with_reducible refine Rd.retN ?_ | with_reducible refine Rd.drop ?_ | with_reducible refine Rd.ifs ?_ | with_reducible refine Rd.ife ?_ | with_reducible refine Rd.test ?_ | with_reducible refine Rd.tb_ ?_ | with_reducible refine Rd.bl ?_ | with_reducible refine Rd.bl2 ?_ | with_reducible refine Rd.and_ ?_ | with_reducible refine Rd.or_ ?_ | with_reducible refine Rd.not_ ?_ | with_reducible refine Rd.andV ?_ | with_reducible refine Rd.orV ?_ | with_reducible refine Rd.notV ?_ | with_reducible refine Rd.op ?_ | with_reducible refine Rd.un ?_ | with_reducible refine Rd.I0 ?_ | with_reducible refine Rd.U ?_ | with_reducible refine Rd.ip ?_ | with_reducible refine Rd.c_ ?_ | with_reducible refine Rd.nil ?_ | with_reducible refine Rd.cons ?_ | with_reducible refine Rd.tup ?_ | with_reducible refine Rd.lst ?_ | with_reducible refine Rd.call ?_ | with_reducible refine Rd.cb ?_ | with_reducible refine Rd.bm ?_ | with_reducible refine Rd.bm0 ?_ | with_reducible refine Rd.sl ?_ | with_reducible refine Rd.nopart ?_ | with_reducible refine Rd.part ?_ | with_reducible refine Rd.int1 ?_ | with_reducible refine Rd.ints1 ?_ | with_reducible refine Rd.ints2 ?_ | with_reducible refine Rd.gcons ?_ | with_reducible refine Rd.gnil ?_ | with_reducible refine Rd.sub ?_ | with_reducible refine Rd.isN ?_ | with_reducible refine Rd.chain ?_ | with_reducible refine Rd.rf ?_ | with_reducible refine Rd.tyS ?_ | with_reducible refine Rd.intI ?_ | with_reducible refine Rd.lc ?_ | with_reducible refine Rd.for_ ?_ | with_reducible refine Rd.ilist ?_ | with_reducible refine Rd.itup ?_ | with_reducible refine Rd.irng1 ?_ | with_reducible refine Rd.irng2 ?_ | with_reducible refine Rd.ienum ?_ | with_reducible refine Rd.istr ?_ | with_reducible refine Rd.refA ?_ | with_reducible refine Rd.strA ?_ | with_reducible refine Rd.yes ?_ | with_reducible refine Rd.ifT ?_ | with_reducible refine Rd.ifF ?_ | with_reducible refine Rd.ifnT ?_ | with_reducible refine Rd.ifnF ?_ | with_reducible refine Rd.isi_ii ?_ | with_reducible refine Rd.isi_ib ?_ | with_reducible refine Rd.isi_is ?_ | with_reducible refine Rd.isi_il ?_ | with_reducible refine Rd.isi_it ?_ | with_reducible refine Rd.isi_id ?_ | with_reducible refine Rd.isi_bi ?_ | with_reducible refine Rd.isi_bb ?_ | with_reducible refine Rd.isi_bs ?_ | with_reducible refine Rd.isi_bl ?_ | with_reducible refine Rd.isi_bt ?_ | with_reducible refine Rd.isi_bd ?_ | with_reducible refine Rd.isi_si ?_ | with_reducible refine Rd.isi_sb ?_ | with_reducible refine Rd.isi_ss ?_ | with_reducible refine Rd.isi_sl ?_ | with_reducible refine Rd.isi_st ?_ | with_reducible refine Rd.isi_sd ?_ | with_reducible refine Rd.isi_ni ?_ | with_reducible refine Rd.isi_nb ?_ | with_reducible refine Rd.isi_ns ?_ | with_reducible refine Rd.isi_nl ?_ | with_reducible refine Rd.isi_nt ?_ | with_reducible refine Rd.isi_nd ?_ | with_reducible refine Rd.v0 ?_ | with_reducible refine Rd.v1 ?_ | with_reducible refine Rd.v2 ?_ | with_reducible refine Rd.v3 ?_ | with_reducible refine Rd.v4 ?_ | with_reducible refine Rd.v5 ?_ | with_reducible refine Rd.v6 ?_ | with_reducible refine Rd.v7 ?_ | with_reducible refine Rd.v8 ?_ | with_reducible refine Rd.v9 ?_ | with_reducible refine Rd.v10 ?_ | with_reducible refine Rd.v11 ?_ | with_reducible refine Rd.v12 ?_ | with_reducible refine Rd.v13 ?_ | with_reducible refine Rd.v14 ?_ | with_reducible refine Rd.v15 ?_ | with_reducible refine Rd.v16 ?_ | with_reducible refine Rd.v17 ?_ | with_reducible refine Rd.v18 ?_ | with_reducible refine Rd.v19 ?_ | with_reducible refine Rd.v20 ?_ | with_reducible refine Rd.v21 ?_ | with_reducible refine Rd.v22 ?_ | with_reducible refine Rd.v23 ?_ | with_reducible refine Rd.v24 ?_ | with_reducible refine Rd.v25 ?_ | with_reducible refine Rd.v26 ?_ | with_reducible refine Rd.v27 ?_ | with_reducible refine Rd.n0 ?_ | with_reducible refine Rd.n1 ?_ | with_reducible refine Rd.n2 ?_ | with_reducible refine Rd.n3 ?_ | with_reducible refine Rd.n4 ?_ | with_reducible refine Rd.n5 ?_ | with_reducible refine Rd.n6 ?_ | with_reducible refine Rd.n7 ?_ | with_reducible refine Rd.n8 ?_ | with_reducible refine Rd.n9 ?_ | with_reducible refine Rd.n10 ?_ | with_reducible refine Rd.n11 ?_ | with_reducible refine Rd.n12 ?_ | with_reducible refine Rd.n13 ?_ | with_reducible refine Rd.n14 ?_ | with_reducible refine Rd.n15 ?_ | with_reducible refine Rd.n16 ?_ | with_reducible refine Rd.n17 ?_ | with_reducible refine Rd.n18 ?_ | with_reducible refine Rd.n19 ?_ | with_reducible refine Rd.n20 ?_ | with_reducible refine Rd.n21 ?_ | with_reducible refine Rd.n22 ?_ | with_reducible refine Rd.n23 ?_ | with_reducible refine Rd.n24 ?_ | with_reducible refine Rd.n25 ?_ | with_reducible refine Rd.n26 ?_ | with_reducible refine Rd.n27 ?_ | with_reducible refine Rd.g0 ?_ | with_reducible refine Rd.g1 ?_ | with_reducible refine Rd.g2 ?_ | with_reducible refine Rd.g3 ?_ | with_reducible refine Rd.g4 ?_ | with_reducible refine Rd.g5 ?_ | with_reducible refine Rd.g6 ?_ | with_reducible refine Rd.g7 ?_ | with_reducible refine Rd.g8 ?_ | with_reducible refine Rd.g9 ?_ | with_reducible refine Rd.g10 ?_ | with_reducible refine Rd.g11 ?_ | with_reducible refine Rd.g12 ?_ | with_reducible refine Rd.g13 ?_ | with_reducible refine Rd.g14 ?_ | with_reducible refine Rd.g15 ?_ | with_reducible refine Rd.g16 ?_ | with_reducible refine Rd.g17 ?_ | with_reducible refine Rd.g18 ?_ | with_reducible refine Rd.g19 ?_ | with_reducible refine Rd.g20 ?_ | with_reducible refine Rd.g21 ?_ | with_reducible refine Rd.g22 ?_ | with_reducible refine Rd.g23 ?_ | with_reducible refine Rd.g24 ?_ | with_reducible refine Rd.g25 ?_ | with_reducible refine Rd.g26 ?_ | with_reducible refine Rd.g27 ?_ | ((with_reducible apply Rd.glst); (first | assumption | exact upd_same); exact rfl) | ((with_reducible apply Rd.gtP); assumption; assumption) | ((with_reducible apply Rd.revq); first | assumption | exact SqL.of (by assumption)) | ((with_reducible apply Rd.fldI); (first | assumption | exact upd_same); assumption; assumption; (first | assumption | with_unfolding_all rfl)) | ((with_reducible apply Rd.methI); (first | assumption | exact upd_same); (first | assumption | with_unfolding_all rfl)) | ((with_reducible apply Rd.sfldI); (first | assumption | exact upd_same); assumption; assumption; exact Nat.le_of_ble_eq_true rfl) | ((with_reducible apply Rd.maxL); assumption) | ((with_reducible apply Rd.anyL); assumption) | ((with_reducible apply Rd.sumL); assumption) | ((with_reducible refine Rd.izI (by assumption) (by assumption) ?_)) | ((with_reducible refine Rd.eq ?_ ?_); exact rfl) | ((with_reducible refine Rd.ne ?_ ?_); exact rfl) | ((with_reducible refine Rd.szA ?_ ?_); exact Nat.le_of_ble_eq_true rfl) | ((with_reducible refine Rd.I ?_ ?_); first | assumption | decide | exact Or.inr (by decide +kernel) | exact Or.inl (by decide +kernel) | exact ⟨by decide, by decide⟩ | exact ⟨by decide, by decide, by decide⟩ | omega) | ((with_reducible apply Rd.tyL); first | assumption | exact upd_same) | ((with_reducible apply Rd.tyLq); assumption) | ((with_reducible apply Rd.ixL); (first | assumption | exact upd_same); exact rfl) | ((with_reducible apply Rd.ixT); (first | assumption | exact upd_same); exact rfl) | ((with_reducible apply Rd.ixLq); assumption; exact rfl) | ((with_reducible apply Rd.ixTq); assumption; exact rfl) | ((with_reducible apply Rd.gtup); (first | assumption | exact upd_same); exact rfl) | ((with_reducible apply Rd.gtupq); assumption; exact rfl) | ((with_reducible apply Rd.sqAq); assumption) | ((with_reducible apply Rd.stAq); assumption) | ((with_reducible apply Rd.enAq); assumption) | ((with_reducible apply Rd.lenLq); assumption) | ((with_reducible apply Rd.lenTq); assumption) | ((with_reducible apply Rd.sqA); first | assumption | exact upd_same) | ((with_reducible apply Rd.stA); first | assumption | exact upd_same) | ((with_reducible apply Rd.enA); first | assumption | exact upd_same) | ((with_reducible apply Rd.lenL); first | assumption | exact upd_same) | ((with_reducible apply Rd.lenT); first | assumption | exact upd_same) | ((with_reducible refine Rd.nwT ?_ ?_); exact Nat.le_of_ble_eq_true rfl) | ((with_reducible refine Rd.nwL ?_ ?_); exact Nat.le_of_ble_eq_true rfl) | ((with_reducible apply Rd.listOf); assumption) | ((with_reducible apply Rd.listOfq); assumption) | ((with_reducible apply Rd.slo); assumption) | ((with_reducible apply Rd.slq); assumption) | ((with_reducible apply Rd.srtI); assumption) | ((with_reducible apply Rd.srtIo); assumption) | ((with_reducible refine Rd.isi_li (by assumption) ?_)) | ((with_reducible refine Rd.isi_lb (by assumption) ?_)) | ((with_reducible refine Rd.isi_ls (by assumption) ?_)) | ((with_reducible refine Rd.isi_ll (by assumption) ?_)) | ((with_reducible refine Rd.isi_lt (by assumption) ?_)) | ((with_reducible refine Rd.isi_ld (by assumption) ?_)) | ((with_reducible refine Rd.isi_ti (by assumption) ?_)) | ((with_reducible refine Rd.isi_tb (by assumption) ?_)) | ((with_reducible refine Rd.isi_ts (by assumption) ?_)) | ((with_reducible refine Rd.isi_tl (by assumption) ?_)) | ((with_reducible refine Rd.isi_tt (by assumption) ?_)) | ((with_reducible refine Rd.isi_td (by assumption) ?_)))))
local macro_rules | `(tactic| walk_at "my rn") => `(tactic| (repeat (first | with_reducible refine Rd.catQI ?_ | with_reducible refine Rd.revN ?_ | with_reducible refine Rd.lzip ?_ | with_reducible refine Rd.fld ?_ | with_reducible refine Rd.sfld ?_ | with_reducible refine Rd.meth ?_ | with_reducible refine Rd.make ?_ | with_reducible refine Rd.izip ?_ | with_reducible refine Rd.tupN ?_ | with_reducible refine Rd.lstN ?_ | with_reducible refine Rd.cbListOf ?_ | with_reducible refine Rd.cbListOfR ?_ | with_reducible refine Rd.catI ?_ | with_reducible refine Rd.slN ?_ | with_reducible refine Rd.cbSrtI ?_ | with_reducible refine Rd.seq ?_ | with_reducible refine Rd.next ?_ | with_reducible refine Rd.brk ?_ | with_reducible refine Rd.cont ?_ | with_reducible refine Rd.asg ?_ | with_reducible refine Rd.ret ?_ | with_reducible refine Rd.retN ?_ | with_reducible refine Rd.drop ?_ | with_reducible refine Rd.ifs ?_ | with_reducible refine Rd.ife ?_ | with_reducible refine Rd.test ?_ | with_reducible refine Rd.tb_ ?_ | with_reducible refine Rd.bl ?_ | with_reducible refine Rd.bl2 ?_ | with_reducible refine Rd.and_ ?_ | with_reducible refine Rd.or_ ?_ | with_reducible refine Rd.not_ ?_ | with_reducible refine Rd.andV ?_ | with_reducible refine Rd.orV ?_ | with_reducible refine Rd.notV ?_ | with_reducible refine Rd.op ?_ | with_reducible refine Rd.un ?_ | with_reducible refine Rd.I0 ?_ | with_reducible refine Rd.U ?_ | with_reducible refine Rd.ip ?_ | with_reducible refine Rd.c_ ?_ | with_reducible refine Rd.nil ?_ | with_reducible refine Rd.cons ?_ | with_reducible refine Rd.call ?_ | with_reducible refine Rd.cb ?_ | with_reducible refine Rd.bm ?_ | with_reducible refine Rd.bm0 ?_ | with_reducible refine Rd.nopart ?_ | with_reducible refine Rd.part ?_ | with_reducible refine Rd.int1 ?_ | with_reducible refine Rd.ints1 ?_ | with_reducible refine Rd.ints2 ?_ | with_reducible refine Rd.gcons ?_ | with_reducible refine Rd.gnil ?_ | with_reducible refine Rd.sub ?_ | with_reducible refine Rd.isN ?_ | with_reducible refine Rd.chain ?_ | with_reducible refine Rd.rf ?_ | with_reducible refine Rd.tyS ?_ | with_reducible refine Rd.intI ?_ | with_reducible refine Rd.lc ?_ | with_reducible refine Rd.for_ ?_ | with_reducible refine Rd.ilist ?_ | with_reducible refine Rd.itup ?_ | with_reducible refine Rd.irng1 ?_ | with_reducible refine Rd.irng2 ?_ | with_reducible refine Rd.ienum ?_ | with_reducible refine Rd.istr ?_ | with_reducible refine Rd.refA ?_ | with_reducible refine Rd.strA ?_ | with_reducible refine Rd.yes ?_ | with_reducible refine Rd.ifT ?_ | with_reducible refine Rd.ifF ?_ | with_reducible refine Rd.ifnT ?_ | with_reducible refine Rd.ifnF ?_ | with_reducible refine Rd.isi_ii ?_ | with_reducible refine Rd.isi_ib ?_ | with_reducible refine Rd.isi_is ?_ | with_reducible refine Rd.isi_il ?_ | with_reducible refine Rd.isi_it ?_ | with_reducible refine Rd.isi_id ?_ | with_reducible refine Rd.isi_bi ?_ | with_reducible refine Rd.isi_bb ?_ | with_reducible refine Rd.isi_bs ?_ | with_reducible refine Rd.isi_bl ?_ | with_reducible refine Rd.isi_bt ?_ | with_reducible refine Rd.isi_bd ?_ | with_reducible refine Rd.isi_si ?_ | with_reducible refine Rd.isi_sb ?_ | with_reducible refine Rd.isi_ss ?_ | with_reducible refine Rd.isi_sl ?_ | with_reducible refine Rd.isi_st ?_ | with_reducible refine Rd.isi_sd ?_ | with_reducible refine Rd.isi_ni ?_ | with_reducible refine Rd.isi_nb ?_ | with_reducible refine Rd.isi_ns ?_ | with_reducible refine Rd.isi_nl ?_ | with_reducible refine Rd.isi_nt ?_ | with_reducible refine Rd.isi_nd ?_ | with_reducible refine Rd.sl ?_ | with_reducible refine Rd.v0 ?_ | with_reducible refine Rd.v1 ?_ | with_reducible refine Rd.v2 ?_ | with_reducible refine Rd.v3 ?_ | with_reducible refine Rd.v4 ?_ | with_reducible refine Rd.v5 ?_ | with_reducible refine Rd.v6 ?_ | with_reducible refine Rd.v7 ?_ | with_reducible refine Rd.v8 ?_ | with_reducible refine Rd.v9 ?_ | with_reducible refine Rd.v10 ?_ | with_reducible refine Rd.v11 ?_ | with_reducible refine Rd.v12 ?_ | with_reducible refine Rd.v13 ?_ | with_reducible refine Rd.v14 ?_ | with_reducible refine Rd.v15 ?_ | with_reducible refine Rd.v16 ?_ | with_reducible refine Rd.v17 ?_ | with_reducible refine Rd.v18 ?_ | with_reducible refine Rd.v19 ?_ | with_reducible refine Rd.v20 ?_ | with_reducible refine Rd.v21 ?_ | with_reducible refine Rd.v22 ?_ | with_reducible refine Rd.v23 ?_ | with_reducible refine Rd.v24 ?_ | with_reducible refine Rd.v25 ?_ | with_reducible refine Rd.v26 ?_ | with_reducible refine Rd.v27 ?_ | with_reducible refine Rd.n0 ?_ | with_reducible refine Rd.n1 ?_ | with_reducible refine Rd.n2 ?_ | with_reducible refine Rd.n3 ?_ | with_reducible refine Rd.n4 ?_ | with_reducible refine Rd.n5 ?_ | with_reducible refine Rd.n6 ?_ | with_reducible refine Rd.n7 ?_ | with_reducible refine Rd.n8 ?_ | with_reducible refine Rd.n9 ?_ | with_reducible refine Rd.n10 ?_ | with_reducible refine Rd.n11 ?_ | with_reducible refine Rd.n12 ?_ | with_reducible refine Rd.n13 ?_ | with_reducible refine Rd.n14 ?_ | with_reducible refine Rd.n15 ?_ | with_reducible refine Rd.n16 ?_ | with_reducible refine Rd.n17 ?_ | with_reducible refine Rd.n18 ?_ | with_reducible refine Rd.n19 ?_ | with_reducible refine Rd.n20 ?_ | with_reducible refine Rd.n21 ?_ | with_reducible refine Rd.n22 ?_ | with_reducible refine Rd.n23 ?_ | with_reducible refine Rd.n24 ?_ | with_reducible refine Rd.n25 ?_ | with_reducible refine Rd.n26 ?_ | with_reducible refine Rd.n27 ?_ | with_reducible refine Rd.g0 ?_ | with_reducible refine Rd.g1 ?_ | with_reducible refine Rd.g2 ?_ | with_reducible refine Rd.g3 ?_ | with_reducible refine Rd.g4 ?_ | with_reducible refine Rd.g5 ?_ | with_reducible refine Rd.g6 ?_ | with_reducible refine Rd.g7 ?_ | with_reducible refine Rd.g8 ?_ | with_reducible refine Rd.g9 ?_ | with_reducible refine Rd.g10 ?_ | with_reducible refine Rd.g11 ?_ | with_reducible refine Rd.g12 ?_ | with_reducible refine Rd.g13 ?_ | with_reducible refine Rd.g14 ?_ | with_reducible refine Rd.g15 ?_ | with_reducible refine Rd.g16 ?_ | with_reducible refine Rd.g17 ?_ | with_reducible refine Rd.g18 ?_ | with_reducible refine Rd.g19 ?_ | with_reducible refine Rd.g20 ?_ | with_reducible refine Rd.g21 ?_ | with_reducible refine Rd.g22 ?_ | with_reducible refine Rd.g23 ?_ | with_reducible refine Rd.g24 ?_ | with_reducible refine Rd.g25 ?_ | with_reducible refine Rd.g26 ?_ | with_reducible refine Rd.g27 ?_ | ((with_reducible apply Rd.glst); (first | assumption | exact upd_same); exact rfl) | ((with_reducible apply Rd.gtP); assumption; assumption) | ((with_reducible apply Rd.revq); first | assumption | exact SqL.of (by assumption)) | ((with_reducible apply Rd.fldI); (first | assumption | exact upd_same); assumption; assumption; (first | assumption | with_unfolding_all rfl)) | ((with_reducible apply Rd.methI); (first | assumption | exact upd_same); (first | assumption | with_unfolding_all rfl)) | ((with_reducible apply Rd.sfldI); (first | assumption | exact upd_same); assumption; assumption; exact Nat.le_of_ble_eq_true rfl) | ((with_reducible apply Rd.maxL); assumption) | ((with_reducible apply Rd.anyL); assumption) | ((with_reducible apply Rd.sumL); assumption) | ((with_reducible refine Rd.izI (by assumption) (by assumption) ?_)) | ((with_reducible refine Rd.eq ?_ ?_); exact rfl) | ((with_reducible refine Rd.ne ?_ ?_); exact rfl) | ((with_reducible refine Rd.szA ?_ ?_); exact Nat.le_of_ble_eq_true rfl) | ((with_reducible refine Rd.I ?_ ?_); first | assumption | decide | exact Or.inr (by decide +kernel) | exact Or.inl (by decide +kernel) | exact ⟨by decide, by decide⟩ | exact ⟨by decide, by decide, by decide⟩ | omega) | ((with_reducible apply Rd.tyL); first | assumption | exact upd_same) | ((with_reducible apply Rd.tyLq); assumption) | ((with_reducible apply Rd.ixL); (first | assumption | exact upd_same); exact rfl) | ((with_reducible apply Rd.ixT); (first | assumption | exact upd_same); exact rfl) | ((with_reducible apply Rd.ixLq); assumption; exact rfl) | ((with_reducible apply Rd.ixTq); assumption; exact rfl) | ((with_reducible apply Rd.gtup); (first | assumption | exact upd_same); exact rfl) | ((with_reducible apply Rd.gtupq); assumption; exact rfl) | ((with_reducible apply Rd.sqAq); assumption) | ((with_reducible apply Rd.stAq); assumption) | ((with_reducible apply Rd.enAq); assumption) | ((with_reducible apply Rd.lenLq); assumption) | ((with_reducible apply Rd.lenTq); assumption) | ((with_reducible apply Rd.sqA); first | assumption | exact upd_same) | ((with_reducible apply Rd.stA); first | assumption | exact upd_same) | ((with_reducible apply Rd.enA); first | assumption | exact upd_same) | ((with_reducible apply Rd.lenL); first | assumption | exact upd_same) | ((with_reducible apply Rd.lenT); first | assumption | exact upd_same) | ((with_reducible refine Rd.nwT ?_ ?_); exact Nat.le_of_ble_eq_true rfl) | ((with_reducible refine Rd.nwL ?_ ?_); exact Nat.le_of_ble_eq_true rfl) | ((with_reducible apply Rd.listOf); assumption) | ((with_reducible apply Rd.listOfq); assumption) | ((with_reducible apply Rd.slo); assumption) | ((with_reducible apply Rd.slq); assumption) | ((with_reducible apply Rd.srtI); assumption) | ((with_reducible apply Rd.srtIo); assumption) | ((with_reducible refine Rd.isi_li (by assumption) ?_)) | ((with_reducible refine Rd.isi_lb (by assumption) ?_)) | ((with_reducible refine Rd.isi_ls (by assumption) ?_)) | ((with_reducible refine Rd.isi_ll (by assumption) ?_)) | ((with_reducible refine Rd.isi_lt (by assumption) ?_)) | ((with_reducible refine Rd.isi_ld (by assumption) ?_)) | ((with_reducible refine Rd.isi_ti (by assumption) ?_)) | ((with_reducible refine Rd.isi_tb (by assumption) ?_)) | ((with_reducible refine Rd.isi_ts (by assumption) ?_)) | ((with_reducible refine Rd.isi_tl (by assumption) ?_)) | ((with_reducible refine Rd.isi_tt (by assumption) ?_)) | ((with_reducible refine Rd.isi_td (by assumption) ?_)))))
def topS (i : Nat) : Stmt := PySem.Challenge.pw_deadbeat_k43_ceilings_of_objects.main.body.getD i (.Pass ⟨0, 0, 0, 0⟩)
abbrev s__law_state : Stmt := topS 16
theorem sc__law_state : FnScope ["script", "seed", "cell"] ["script"] (defScope s__law_state) := ⟨rfl, rfl, rfl, by decide +kernel, rfl, by decide +kernel, by decide +kernel⟩
abbrev s__law_draw : Stmt := topS 17
theorem sc__law_draw : FnScope ["state", "many", "cells", "value", "mixed"] ["state", "many"] (defScope s__law_draw) := ⟨rfl, rfl, rfl, by decide +kernel, rfl, by decide +kernel, by decide +kernel⟩
abbrev s_find : Stmt := topS 6
theorem sc_find : FnScope ["rows", "name", "at", "row"] ["rows", "name"] (defScope s_find) := ⟨rfl, rfl, rfl, by decide +kernel, rfl, by decide +kernel, by decide +kernel⟩
abbrev s__overlap : Stmt := topS 14
theorem sc__overlap : FnScope ["row", "other", "index"] ["row", "other"] (defScope s__overlap) := ⟨rfl, rfl, rfl, by decide +kernel, rfl, by decide +kernel, by decide +kernel⟩
abbrev s__inside : Stmt := topS 2
theorem sc__inside : FnScope ["statement"] ["statement"] (defScope s__inside) := ⟨rfl, rfl, rfl, by decide +kernel, rfl, by decide +kernel, by decide +kernel⟩
abbrev s__copied : Stmt := topS 3
theorem sc__copied : FnScope ["body", "statement"] ["body"] (defScope s__copied) := ⟨rfl, rfl, rfl, by decide +kernel, rfl, by decide +kernel, by decide +kernel⟩
abbrev s__copied_statement : Stmt := topS 4
theorem sc__copied_statement : FnScope ["statement", "kind", "_", "e", "then", "other", "name", "count", "body", "place", "thing", "operation", "given"] ["statement"] (defScope s__copied_statement) := ⟨rfl, rfl, rfl, by decide +kernel, rfl, by decide +kernel, by decide +kernel⟩
abbrev s_statements : Stmt := topS 1
theorem sc_statements : FnScope ["body", "found", "waiting", "statement"] ["body"] (defScope s_statements) := ⟨rfl, rfl, rfl, by decide +kernel, rfl, by decide +kernel, by decide +kernel⟩
abbrev s__reached_by : Stmt := topS 9
theorem sc__reached_by : FnScope ["program", "body", "found", "indexes", "statement"] ["program", "body", "found"] (defScope s__reached_by) := ⟨rfl, rfl, rfl, by decide +kernel, rfl, by decide +kernel, by decide +kernel⟩
abbrev s_reached : Stmt := topS 7
theorem sc_reached : FnScope ["program", "objects", "found", "_", "at", "near", "operation"] ["program"] (defScope s_reached) := ⟨rfl, rfl, rfl, by decide +kernel, rfl, by decide +kernel, by decide +kernel⟩
abbrev s_used : Stmt := topS 8
theorem sc_used : FnScope ["program", "found", "by_tasks", "task", "by_interrupts", "interrupt"] ["program"] (defScope s_used) := ⟨rfl, rfl, rfl, by decide +kernel, rfl, by decide +kernel, by decide +kernel⟩
abbrev s_numbers : Stmt := topS 12
theorem sc_numbers : FnScope ["program", "tasks", "rows", "t", "task", "by_tasks", "i"] ["program"] (defScope s_numbers) := ⟨rfl, rfl, rfl, by decide +kernel, rfl, by decide +kernel, by decide +kernel⟩
abbrev s_ceilings : Stmt := topS 13
theorem sc_ceilings : FnScope ["program", "users", "found", "indexes", "number", "row"] ["program"] (defScope s_ceilings) := ⟨rfl, rfl, rfl, by decide +kernel, rfl, by decide +kernel, by decide +kernel⟩
abbrev s__law_wrapped : Stmt := topS 18
theorem sc__law_wrapped : FnScope ["state", "call", "kind"] ["state", "call"] (defScope s__law_wrapped) := ⟨rfl, rfl, rfl, by decide +kernel, rfl, by decide +kernel, by decide +kernel⟩
abbrev s__law_calls : Stmt := topS 19
theorem sc__law_calls : FnScope ["state", "first", "many", "body", "targets", "k", "at"] ["state", "first", "many"] (defScope s__law_calls) := ⟨rfl, rfl, rfl, by decide +kernel, rfl, by decide +kernel, by decide +kernel⟩
abbrev s__law_objects : Stmt := topS 20
theorem sc__law_objects : FnScope ["state", "many", "objects", "edges", "k", "operations", "row", "j", "made"] ["state", "many"] (defScope s__law_objects) := ⟨rfl, rfl, rfl, by decide +kernel, rfl, by decide +kernel, by decide +kernel⟩
abbrev s__law_reach : Stmt := topS 21
theorem sc__law_reach : FnScope ["edges", "k", "found", "at"] ["edges", "k"] (defScope s__law_reach) := ⟨rfl, rfl, rfl, by decide +kernel, rfl, by decide +kernel, by decide +kernel⟩
abbrev s_law : Stmt := topS 22
theorem sc_law : FnScope ["script", "state", "many", "objects", "edges", "tasks", "users", "k", "made", "within", "interrupts", "levels", "user", "other", "rows", "at", "due", "own", "best", "who", "thing", "actual", "level"] ["script"] (defScope s_law) := ⟨rfl, rfl, rfl, by decide +kernel, rfl, by decide +kernel, by decide +kernel⟩
structure Top (K : PySem.W.Frag) (mg : Str → Option Value) where
  a__law_state : Addr
  d__law_state : FuncData
  F__law_state : Fun K "_law_state" "_law_state" s__law_state a__law_state d__law_state
  g__law_state : mg "_law_state" = some (.ref a__law_state)
  b__law_state : Binds K d__law_state ["script"] []
  a__law_draw : Addr
  d__law_draw : FuncData
  F__law_draw : Fun K "_law_draw" "_law_draw" s__law_draw a__law_draw d__law_draw
  g__law_draw : mg "_law_draw" = some (.ref a__law_draw)
  b__law_draw : Binds K d__law_draw ["state", "many"] []
  a_find : Addr
  d_find : FuncData
  F_find : Fun K "find" "find" s_find a_find d_find
  g_find : mg "find" = some (.ref a_find)
  b_find : Binds K d_find ["rows", "name"] []
  a__overlap : Addr
  d__overlap : FuncData
  F__overlap : Fun K "_overlap" "_overlap" s__overlap a__overlap d__overlap
  g__overlap : mg "_overlap" = some (.ref a__overlap)
  b__overlap : Binds K d__overlap ["row", "other"] []
  a__inside : Addr
  d__inside : FuncData
  F__inside : Fun K "_inside" "_inside" s__inside a__inside d__inside
  g__inside : mg "_inside" = some (.ref a__inside)
  b__inside : Binds K d__inside ["statement"] []
  a__copied : Addr
  d__copied : FuncData
  F__copied : Fun K "_copied" "_copied" s__copied a__copied d__copied
  g__copied : mg "_copied" = some (.ref a__copied)
  b__copied : Binds K d__copied ["body"] []
  a__copied_statement : Addr
  d__copied_statement : FuncData
  F__copied_statement : Fun K "_copied_statement" "_copied_statement" s__copied_statement a__copied_statement d__copied_statement
  g__copied_statement : mg "_copied_statement" = some (.ref a__copied_statement)
  b__copied_statement : Binds K d__copied_statement ["statement"] []
  a_statements : Addr
  d_statements : FuncData
  F_statements : Fun K "statements" "statements" s_statements a_statements d_statements
  g_statements : mg "statements" = some (.ref a_statements)
  b_statements : Binds K d_statements ["body"] []
  a__reached_by : Addr
  d__reached_by : FuncData
  F__reached_by : Fun K "_reached_by" "_reached_by" s__reached_by a__reached_by d__reached_by
  g__reached_by : mg "_reached_by" = some (.ref a__reached_by)
  b__reached_by : Binds K d__reached_by ["program", "body", "found"] []
  a_reached : Addr
  d_reached : FuncData
  F_reached : Fun K "reached" "reached" s_reached a_reached d_reached
  g_reached : mg "reached" = some (.ref a_reached)
  b_reached : Binds K d_reached ["program"] []
  a_used : Addr
  d_used : FuncData
  F_used : Fun K "used" "used" s_used a_used d_used
  g_used : mg "used" = some (.ref a_used)
  b_used : Binds K d_used ["program"] []
  a_numbers : Addr
  d_numbers : FuncData
  F_numbers : Fun K "numbers" "numbers" s_numbers a_numbers d_numbers
  g_numbers : mg "numbers" = some (.ref a_numbers)
  b_numbers : Binds K d_numbers ["program"] []
  a_ceilings : Addr
  d_ceilings : FuncData
  F_ceilings : Fun K "ceilings" "ceilings" s_ceilings a_ceilings d_ceilings
  g_ceilings : mg "ceilings" = some (.ref a_ceilings)
  b_ceilings : Binds K d_ceilings ["program"] []
  a__law_wrapped : Addr
  d__law_wrapped : FuncData
  F__law_wrapped : Fun K "_law_wrapped" "_law_wrapped" s__law_wrapped a__law_wrapped d__law_wrapped
  g__law_wrapped : mg "_law_wrapped" = some (.ref a__law_wrapped)
  b__law_wrapped : Binds K d__law_wrapped ["state", "call"] []
  a__law_calls : Addr
  d__law_calls : FuncData
  F__law_calls : Fun K "_law_calls" "_law_calls" s__law_calls a__law_calls d__law_calls
  g__law_calls : mg "_law_calls" = some (.ref a__law_calls)
  b__law_calls : Binds K d__law_calls ["state", "first", "many"] []
  a__law_objects : Addr
  d__law_objects : FuncData
  F__law_objects : Fun K "_law_objects" "_law_objects" s__law_objects a__law_objects d__law_objects
  g__law_objects : mg "_law_objects" = some (.ref a__law_objects)
  b__law_objects : Binds K d__law_objects ["state", "many"] []
  a__law_reach : Addr
  d__law_reach : FuncData
  F__law_reach : Fun K "_law_reach" "_law_reach" s__law_reach a__law_reach d__law_reach
  g__law_reach : mg "_law_reach" = some (.ref a__law_reach)
  b__law_reach : Binds K d__law_reach ["edges", "k"] []
  a_law : Addr
  d_law : FuncData
  F_law : Fun K "law" "law" s_law a_law d_law
  g_law : mg "law" = some (.ref a_law)
  b_law : Binds K d_law ["script"] []
  m_abs : mg "abs" = none
  m_int : mg "int" = none
  m_len : mg "len" = none
  m_enumerate : mg "enumerate" = none
  m_any : mg "any" = none
  m_list : mg "list" = none
  m_reversed : mg "reversed" = none
  m_range : mg "range" = none
  m_set : mg "set" = none
  m_sorted : mg "sorted" = none
  m_max : mg "max" = none
  m_zip : mg "zip" = none
  m_str : mg "str" = none
  m_bool : mg "bool" = none
  m_isinstance : mg "isinstance" = none
  m_all : mg "all" = none
  t_FIRST_INTERRUPT : Tok
  c_FIRST_INTERRUPT : mg "FIRST_INTERRUPT" = some (.int 9 t_FIRST_INTERRUPT)
/-- the state of the law's draws: the list at p, the cells' list at c -/
def StOk (H : Hp) (p c : Addr) : Prop := ∃ (ms : List Int) (sd : Int), p ≠ c ∧ H p = some (.lst [.ref c, .int sd]) ∧ H c = some (.lst (ms.map V.int)) ∧ ms.length ≤ 63 ∧ (∀ m ∈ ms, 0 ≤ m) ∧ 0 ≤ sd ∧ sd ≤ 2147483647
/-- all but the state is as it was -/
def Keep (p c : Addr) (H H' : Hp) : Prop := ∀ b o, b ≠ p → b ≠ c → H b = some o → H' b = some o
theorem Keep.refl (p c : Addr) (H : Hp) : Keep p c H H := fun _ _ _ _ h => h
theorem Keep.trans {p c : Addr} {H H1 H2 : Hp} (a : Keep p c H H1) (b : Keep p c H1 H2) : Keep p c H H2 := fun x o h1 h2 h => b x o h1 h2 (a x o h1 h2 h)
theorem Keep.same {p c : Addr} {H H1 : Hp} (a : Same H H1) : Keep p c H H1 := fun x o _ _ h => a x o h
theorem Keep.atp {p c : Addr} {H : Hp} {o : HO} : Keep p c H (upd H p o) := fun x u h1 _ h => by
  rw [upd_ne h1]
  exact h
theorem Keep.atc {p c : Addr} {H : Hp} {o : HO} : Keep p c H (upd H c o) := fun x u _ h2 h => by
  rw [upd_ne h2]
  exact h
theorem StOk.same {H H' : Hp} {p c : Addr} (s : StOk H p c) (e : Same H H') : StOk H' p c := by
  obtain ⟨ms, sd, h1, h2, h3, h⟩ := s
  exact ⟨ms, sd, h1, e _ _ h2, e _ _ h3, h⟩
/-- an address that is free behind was free before -/
theorem Keep.free {p c : Addr} {H H' : Hp} (k : Keep p c H H') (s : StOk H' p c) {l : Addr} (h : H' l = Option.none) : H l = Option.none := by
  obtain ⟨ms, sd, h1, h2, h3, _⟩ := s
  cases e : H l with
  | none => rfl
  | some o =>
    have np : l ≠ p := fun z => by rw [z, h2] at h; cases h
    have nc : l ≠ c := fun z => by rw [z, h3] at h; cases h
    rw [k l o np nc e] at h
    cases h
theorem StOk.ne {H : Hp} {p c l : Addr} (s : StOk H p c) (h : H l = Option.none) : l ≠ p ∧ l ≠ c := by
  obtain ⟨ms, sd, h1, h2, h3, _⟩ := s
  exact ⟨fun z => (by rw [z, h2] at h; cases h), fun z => (by rw [z, h3] at h; cases h)⟩
section
variable {P : Program} {w : World} {K : PySem.W.Frag} {mg : Str → Option Value} {base : Heap}
def sp__law_state (K : PySem.W.Frag) : Sp := fun vs H Q _ => ∃ (a : Addr) (ns : List Int), vs = [.ref a] ∧ SqL K H a (ns.map V.int) ∧ ns.length ≤ 63 ∧ ∀ (H' : Hp) (p c : Addr), Same H H' → H p = none → H c = none → StOk H' p c → Q (.ref p) H'
theorem abs_nn (n : Int) : 0 ≤ (if n < 0 then -n else n) := by
  split <;> omega
def absI (n : Int) : Int := if n < 0 then -n else n
theorem ok__law_state (T : Top K mg) : FnOk P w K mg base CX0 1 T.a__law_state T.d__law_state ["script"]  (sp__law_state K) := by
  refine T.F__law_state.ok sc__law_state (fun vs H Q E h => ?_) (fun cdv A outer s H vs Q E hr h => ?_)
  · obtain ⟨_, _, rfl, _⟩ := h
    rfl
  · obtain ⟨a, ns, rfl, hS, hlen, q⟩ := h
    refine ⟨_, (pss_cons (ps_set (i := 1) sc__law_state.nd rfl (by first | exact Or.inl rfl | exact Or.inr rfl) pe_int)
  (pss_cons (ps_for PassesOwn.never rfl (pi_list (pv 0)) (pg_name (i := 2) sc__law_state.nd rfl (by first | exact Or.inl rfl | exact Or.inr rfl))
  (pss_one (ps_set (i := 1) sc__law_state.nd rfl (by first | exact Or.inl rfl | exact Or.inr rfl) (pe_op op_mod (pe_callTy call_int1 (by rfl) T.m_int (by decide +kernel) (pa_cons (pe_op op_add (pe_op op_mul (pv 1) pe_int) (pv 2)) pa_nil)) pe_int))))
  (pss_one (ps_ret (pe_lst (pa_cons (pe_lc (own := [("cell", 2)]) (g := gName 2) (tt := tYes) rfl sc__law_state.nd (pi_list (pv 0)) (blkOk_by (N := ["script", "seed", "cell"]) (sc := defScope s__law_state) (by decide +kernel)) (fun _ _ _ _ _ => pg_name (i := 2) sc__law_state.nd rfl (Or.inl rfl)) (fun _ _ _ _ _ => pts_nil) (fun _ _ _ _ _ => (pe_callB call_abs (by rfl) T.m_abs (by decide +kernel) (pa_cons (pv 2) pa_nil)))) (pa_cons (pe_op op_add (pv 1) pe_int) pa_nil))))))), ?_⟩
    refine ⟨_, rfl, a, rfl, ⟨_, hS⟩, for_list (xs := ns.map V.int) (fun i σ H' => ∃ sd y2, σ = [some (.ref a), some (.int sd), y2] ∧ H' = H ∧ 0 ≤ sd ∧ sd < 1000003) ⟨7, none, rfl, rfl, by decide, by decide⟩ (fun i σ H' _ ⟨_, _, _, e, _⟩ => by rw [e]; exact hS) ?_ ?_⟩
    · rintro i x σ H' hi ⟨sd, y2, rfl, rfl, h0, h1⟩
      obtain ⟨n, _, rfl⟩ := List.mem_map.mp (List.mem_of_getElem? hi)
      refine ⟨_, rfl, _, _, rfl, rfl, .inl ⟨by omega, by omega⟩, _, rfl, _, _, rfl, rfl, .inl ⟨_, rfl, _, _, rfl, rfl, (by show (0 : Int) < 1000003; decide), ?_⟩⟩
      exact ⟨_, _, rfl, rfl, Int.emod_nonneg _ (by decide), Int.emod_lt_of_pos _ (by decide)⟩
    · rintro σ H' ⟨sd, y2, rfl, rfl, h0, h1⟩
      refine ⟨_, rfl, a, rfl, ⟨_, hS⟩, fun c hc => ?_⟩
      refine lc_list (xs := ns.map V.int) (fun i H'' => H'' = upd H' c (.lst ((ns.take i).map fun n => V.int (absI n)))) rfl (fun i H'' _ e => ?_) ?_ ?_
      · rw [e]
        exact (same_new hc).seq hS
      · rintro i x H'' hi rfl
        obtain ⟨n, hn, rfl⟩ : ∃ n, ns[i]? = some n ∧ V.int n = x := by
          rw [List.getElem?_map] at hi
          cases e : ns[i]? with
          | none => rw [e] at hi; cases hi
          | some n => rw [e] at hi; exact ⟨n, rfl, Option.some.inj hi⟩
        refine ⟨rfl, ?_⟩
        refine ⟨_, rfl, _, rfl, _, upd_same, ?_, ?_⟩
        · rw [List.length_map, List.length_take]
          exact small1000 (by omega)
        · rw [upd_upd, List.take_add_one, hn, List.map_append]
          rfl
      · rintro H'' rfl
        rw [List.length_map, List.take_length]
        refine ⟨_, rfl, _, _, rfl, rfl, (by show 2 ≤ sizeLine; decide), fun p hp => ?_⟩
        have npc : p ≠ c := fun z => by rw [z, upd_same] at hp; cases hp
        refine q _ p c ((same_new hc).trans (same_new hp)) ((same_new hc).free hp) hc ⟨ns.map absI, sd + 1, npc, upd_same, ?_, ?_, ?_, by omega, by omega⟩
        · rw [upd_ne npc.symm, upd_same, List.map_map]
          rfl
        · rw [List.length_map]
          exact hlen
        · intro m hm
          obtain ⟨n, _, rfl⟩ := List.mem_map.mp hm
          exact abs_nn n
theorem ix0 {n : Nat} (h : 0 < n) : ixN n 0 = some 0 := by
  unfold ixN
  rw [if_pos (by decide), if_pos (by omega)]
  rfl
theorem seq0 {n : Nat} (h : 0 < n) : seqIndex? 0 n = some 0 := by
  unfold seqIndex?
  simp
  omega
def sp__law_draw : Sp := fun vs H Q _ => ∃ (p c : Addr) (many : Int), vs = [.ref p, .int many] ∧ StOk H p c ∧ 0 < many ∧ many ≤ 1099511627775 ∧ ∀ (v : Int) (H' : Hp), 0 ≤ v → v < many → StOk H' p c → Keep p c H H' → Q (.int v) H'
theorem ok__law_draw (T : Top K mg) : FnOk P w K mg base CX0 1 T.a__law_draw T.d__law_draw ["state", "many"]  sp__law_draw := by
  refine T.F__law_draw.ok sc__law_draw (fun vs H Q E h => ?_) (fun cdv A outer s H vs Q E hr h => ?_)
  · obtain ⟨_, _, _, rfl, _⟩ := h
    rfl
  · obtain ⟨p, c, many, rfl, hst, hm0, hm1, q⟩ := h
    obtain ⟨ms, sd, npc, hp, hc, hl, hn, s0, s1⟩ := hst
    refine ⟨_, (pss_cons (ps_set (i := 2) sc__law_draw.nd rfl (by first | exact Or.inl rfl | exact Or.inr rfl) (pe_ix ix_list (pv 0) pe_int (fun _ _ => rfl)))
  (pss_cons (ps_while PassesOwn.never (pw_and (pt_cmpR op_gt (pe_callB call_len_seq (by rfl) T.m_len PySem.boot_len (pa_cons (pv 2) pa_nil)) pe_int (nomark _)) (pw_and1 (pt_cmpR op_eq (pe_ix ix_list (pv 2) pe_int (fun _ _ => rfl)) pe_int (nomark _)))).pt
  (pss_one (ps_expr (pe_bm PySem.F.plainAttrs_list PySem.F.slot_list_pop PySem.F.type_list_pop mt_popAt (pv 2) (pa_cons pe_int pa_nil)))))
  (pss_cons (ps_if (pt_cmpR op_gt (pe_callB call_len_seq (by rfl) T.m_len PySem.boot_len (pa_cons (pv 2) pa_nil)) pe_int (nomark _))
  (pss_cons (ps_set (i := 3) sc__law_draw.nd rfl (by first | exact Or.inl rfl | exact Or.inr rfl) (pe_ix ix_list (pv 2) pe_int (fun _ _ => rfl)))
  (pss_cons (ps_asg (pe_op op_fdivW (pv 3) (pv 1)) (pg_sub (pv 2) pe_int set_list))
  (pss_one (ps_ret (pe_op op_mod (pe_callTy call_int1 (by rfl) T.m_int (by decide +kernel) (pa_cons (pv 3) pa_nil)) (pv 1))))))
  pss_nil)
  (pss_cons (ps_set (i := 4) sc__law_draw.nd rfl (by first | exact Or.inl rfl | exact Or.inr rfl) (pe_op op_mod (pe_callTy call_int1 (by rfl) T.m_int (by decide +kernel) (pa_cons (pe_op op_add (pe_op op_mul (pe_ix ix_list (pv 0) pe_int (fun _ _ => rfl)) pe_int) pe_int) pa_nil)) pe_int))
  (pss_cons (ps_asg (pv 4) (pg_sub (pv 0) pe_int set_list))
  (pss_one (ps_ret (pe_op op_mod (pe_callTy call_int1 (by rfl) T.m_int (by decide +kernel) (pa_cons (pe_op op_fdivW (pv 4) pe_int) pa_nil)) (pv 1))))))))), ?_⟩
    have hw : many.natAbs < 2 ^ 40 := by omega
    refine ⟨_, rfl, p, _, 0, .ref c, rfl, rfl, SqL.of hp, atI_nat (j := 0) rfl, ?_⟩
    -- the noughts ahead are dropped
    refine ⟨fun m σ H' => ∃ ms' : List Int, m = ms'.length ∧ σ = [some (.ref p), some (.int many), some (.ref c), none, none] ∧ H' = upd H c (.lst (ms'.map V.int)) ∧ ms'.length ≤ 63 ∧ ∀ x ∈ ms', 0 ≤ x,
      ⟨ms.length, ms, rfl, rfl, (upd_self hc).symm, hl, hn⟩, ?_⟩
    rintro m σ H' ⟨ms', rfl, rfl, rfl, hl', hn'⟩
    have hc' : (upd H c (.lst (ms'.map V.int))) c = some (.lst (ms'.map V.int)) := upd_same
    have hp' : (upd H c (.lst (ms'.map V.int))) p = some (.lst [.ref c, .int sd]) := by rw [upd_ne npc]; exact hp
    refine ⟨_, rfl, c, _, rfl, .inl (SqL.of hc'), _, _, rfl, rfl, _, rfl, ?_⟩
    have fin : ∀ (x : Int) (ms2 : List Int) (H2 : Hp), 0 ≤ x → ms2.length ≤ 63 → (∀ y ∈ ms2, 0 ≤ y) → H2 = upd H c (.lst (ms2.map V.int)) → Q (.int (x % many)) H2 := fun x ms2 H2 hx hl2 hn2 e => by
      rw [e]
      exact q _ _ (Int.emod_nonneg _ (by omega)) (Int.emod_lt_of_pos _ hm0) ⟨ms2, sd, npc, by rw [upd_ne npc]; exact hp, upd_same, hl2, hn2, s0, s1⟩ Keep.atc
    cases ms' with
    | nil =>
      refine iteF (iteF ?_)
      refine ⟨_, rfl, c, _, rfl, .inl (SqL.of hc'), _, _, rfl, rfl, _, rfl, iteF ?_⟩
      refine ⟨_, rfl, p, _, 1, .int sd, rfl, rfl, SqL.of hp', atI_nat (j := 1) rfl, _, _, rfl, rfl, .inl ⟨by omega, by omega⟩, _, _, rfl, rfl, .inl ⟨_, rfl, _, _, rfl, rfl, (by show (0 : Int) < 2147483647; decide), ?_⟩⟩
      refine ⟨_, rfl, _, rfl, p, _, 1, 1, rfl, rfl, hp', rfl, ?_⟩
      refine ⟨_, rfl, _, _, rfl, rfl, wide_div (b := 40) (by decide) (by decide) (by decide) (by decide), .inl ⟨_, rfl, _, rfl, _, _, rfl, rfl, hm0, ?_⟩⟩
      have m0 := Int.emod_nonneg (sd * 48271 + 12345) (show (2147483647 : Int) ≠ 0 by decide)
      have m1 := Int.emod_lt_of_pos (sd * 48271 + 12345) (show (0 : Int) < 2147483647 by decide)
      refine q _ _ (Int.emod_nonneg _ (by omega)) (Int.emod_lt_of_pos _ hm0) ⟨[], (sd * 48271 + 12345) % 2147483647, npc, upd_same, ?_, by decide, by simp, m0, by omega⟩ (Keep.atc.trans Keep.atp)
      rw [upd_ne npc.symm]
      exact upd_same
    | cons y r =>
      have hlen : (0 : Int) < ((y :: r).map V.int).length := by rw [List.length_map, List.length_cons]; omega
      rw [decide_eq_true hlen]
      refine iteT ⟨_, rfl, c, _, 0, .int y, rfl, rfl, SqL.of hc', atI_nat (j := 0) rfl, rfl, _, rfl, ite2 (fun cc => ?_) (fun cc => ?_)⟩
      · -- a nought is dropped
        refine ⟨_, fun _ _ z => z, ?_⟩
        refine ⟨_, rfl, .inl ⟨rfl, _, SqL.of hc'⟩, c, _, 0, 0, .int y, rfl, rfl, hc', by decide, by decide, seq0 (by simp), rfl, ?_⟩
        refine ⟨r.length, by simp, r, rfl, rfl, by rw [upd_upd]; rfl, by simp at hl'; omega, fun x hx => hn' x (List.mem_cons_of_mem _ hx)⟩
      · -- the first cell is drawn from
        have y0 := hn' y List.mem_cons_self
        refine ⟨_, rfl, c, _, rfl, .inl (SqL.of hc'), _, _, rfl, rfl, _, rfl, ?_⟩
        rw [decide_eq_true hlen]
        refine iteT ⟨_, rfl, c, _, 0, .int y, rfl, rfl, SqL.of hc', atI_nat (j := 0) rfl, ?_⟩
        refine ⟨_, rfl, _, rfl, _, _, rfl, rfl, wide_div hm0 hw (by decide) (by decide), ?_⟩
        refine ⟨_, rfl, c, _, 0, 0, rfl, rfl, hc', ix0 (by simp), ?_⟩
        refine ⟨_, rfl, .inl ⟨_, rfl, _, rfl, _, _, rfl, rfl, hm0, ?_⟩⟩
        refine fin y (y / many :: r) _ y0 (by simpa using hl') (fun x hx => ?_) (by rw [upd_upd]; rfl)
        rcases List.mem_cons.mp hx with rfl | hx
        · exact Int.ediv_nonneg y0 (by omega)
        · exact hn' x (List.mem_cons_of_mem _ hx)
end

theorem at_any {xs : List V} {v : Int} {n : Nat} (h0 : 0 ≤ v) (h1 : v < n) (hn : n = xs.length) : ∃ (k : Nat) (y : V), v = (k : Int) ∧ xs[k]? = some y ∧ y ∈ xs := by
  have hk : v.toNat < xs.length := by omega
  exact ⟨v.toNat, xs[v.toNat], by omega, List.getElem?_eq_getElem hk, List.getElem_mem hk⟩
theorem rev_at {us : List Int} {k : Nat} (h : k < us.length) : us.reverse[k]? = us[us.length - 1 - k]? := List.getElem?_reverse h
/-! ### what was made since: the heap of the new objects -/
def New (H H' : Hp) : Hp := fun a => match H a with
  | some _ => none
  | none => H' a
theorem New.at {H H' : Hp} {a : Addr} (h : H a = none) : New H H' a = H' a := by
  unfold New
  rw [h]
theorem New.get {H H' : Hp} {a : Addr} {x : HO} (h : New H H' a = some x) : H a = none ∧ H' a = some x := by
  unfold New at h
  cases e : H a with
  | none => rw [e] at h; exact ⟨rfl, h⟩
  | some y => rw [e] at h; cases h
theorem New.of {H H' : Hp} {a : Addr} {x : HO} (h1 : H a = none) (h2 : H' a = some x) : New H H' a = some x := (New.at h1).trans h2
/-- later on -/
theorem New.keep {p c : Addr} {H H1 H2 : Hp} (sp : ∃ x, H p = some x) (sc : ∃ x, H c = some x) (k : Keep p c H1 H2) : Same (New H H1) (New H H2) := fun a x e => by
  obtain ⟨h1, h2⟩ := New.get e
  obtain ⟨_, hp⟩ := sp
  obtain ⟨_, hc⟩ := sc
  exact New.of h1 (k a x (fun z => by rw [z, hp] at h1; cases h1) (fun z => by rw [z, hc] at h1; cases h1) h2)
/-- seen from earlier -/
theorem New.back {H H1 H2 : Hp} (d : ∀ a x, H a = some x → ∃ y, H1 a = some y) : Same (New H1 H2) (New H H2) := fun a x e => by
  obtain ⟨h1, h2⟩ := New.get e
  refine New.of ?_ h2
  cases e : H a with
  | none => rfl
  | some y =>
    obtain ⟨z, hz⟩ := d a y e
    rw [hz] at h1
    cases h1
/-- what stands stays standing, perhaps changed -/
def Dom (H H' : Hp) : Prop := ∀ a x, H a = some x → ∃ y, H' a = some y
theorem Dom.refl (H : Hp) : Dom H H := fun _ x h => ⟨x, h⟩
theorem Dom.trans {H H1 H2 : Hp} (a : Dom H H1) (b : Dom H1 H2) : Dom H H2 := fun x o h => by
  obtain ⟨y, hy⟩ := a x o h
  exact b x y hy
theorem Dom.same {H H1 : Hp} (s : Same H H1) : Dom H H1 := fun a x h => ⟨x, s a x h⟩
theorem Dom.upd {H : Hp} {a : Addr} {o : HO} : Dom H (upd H a o) := fun b x h => by
  by_cases e : b = a
  · subst e
    exact ⟨_, upd_same⟩
  · exact ⟨x, (upd_ne e).trans h⟩
theorem StOk.there {H : Hp} {p c : Addr} (s : StOk H p c) : (∃ x, H p = some x) ∧ ∃ x, H c = some x := by
  obtain ⟨ms, sd, _, h2, h3, _⟩ := s
  exact ⟨⟨_, h2⟩, ⟨_, h3⟩⟩
theorem Keep.dom {p c : Addr} {H H' : Hp} (k : Keep p c H H') (s : StOk H' p c) : Dom H H' := fun a x h => by
  by_cases e1 : a = p
  · subst e1
    exact s.there.1
  · by_cases e2 : a = c
    · subst e2
      exact s.there.2
    · exact ⟨x, k a x e1 e2 h⟩
theorem Keep.free' {p c : Addr} {H H' : Hp} (k : Keep p c H H') (s : StOk H' p c) {l : Addr} (h : H' l = none) : H l = none := Keep.free k s h
/-! ### data stands under more -/
mutual
theorem dp_same {K : PySem.W.Frag} {H H' : Hp} (s : Same H H') : ∀ {v : V} {d : PyData}, Dp K H v d → Dp K H' v d
  | _, _, .non => .non
  | _, _, .bl b => .bl b
  | _, _, .int i => .int i
  | _, _, .str x => .str x
  | _, _, .lst h a => .lst (s.seq h) (dps_same s a)
  | _, _, .tup h a => .tup (Same.seqT s h) (dps_same s a)
theorem dps_same {K : PySem.W.Frag} {H H' : Hp} (s : Same H H') : ∀ {vs : List V} {ds : List PyData}, DpAll K H vs ds → DpAll K H' vs ds
  | _, _, .nil => .nil
  | _, _, .cons a b => .cons (dp_same s a) (dps_same s b)
end
theorem dps_snoc {K : PySem.W.Frag} {H : Hp} : ∀ {vs : List V} {ds : List PyData} {v : V} {d : PyData}, DpAll K H vs ds → Dp K H v d → DpAll K H (vs ++ [v]) (ds ++ [d])
  | _, _, _, _, .nil, h => .cons h .nil
  | _, _, _, _, .cons a b, h => .cons a (dps_snoc b h)
theorem dps_len {K : PySem.W.Frag} {H : Hp} : ∀ {vs : List V} {ds : List PyData}, DpAll K H vs ds → vs.length = ds.length
  | _, _, .nil => rfl
  | _, _, .cons _ b => by rw [List.length_cons, List.length_cons, dps_len b]
/-! ### expressions and statements as data -/
def Word (a : Int) : Prop := 0 ≤ a ∧ a < 4294967296
inductive Ex
  | num (n : Int)
  | cell (s : Str)
  | at (s : Str) (i : Ex)
  | un (k : Str) (a : Ex)
  | bin (k : Str) (a b : Ex)
def Ex.depth : Ex → Nat
  | num _ => 1
  | cell _ => 1
  | «at» _ i => 1 + i.depth
  | un _ a => 1 + a.depth
  | bin _ a b => 1 + max a.depth b.depth
def Ex.d : Ex → PyData
  | num n => .tuple [.str "num", .int n]
  | cell s => .tuple [.str "cell", .str s]
  | «at» s i => .tuple [.str "at", .str s, i.d]
  | un k a => .tuple [.str k, a.d]
  | bin k a b => .tuple [.str k, a.d, b.d]
def UNS : List Str := ["neg", "inv", "not"]
def BINS : List Str := ["+", "-", "*", "/", "mod", "&", "|", "^", "<<", ">>", "<", "<=", "~<", "~<=", "==", "!=", "and", "or"]
structure Env where
  cells : List (Str × Int)
  vars : List Str
  ports : List (Str × Str)
  calls : List (Str × Str × Nat)
  loops : Int
/-- an expression over the names of env -/
def ExW (g : Env) : Ex → Prop
  | .num n => Word n
  | .cell s => (s, 0) ∈ g.cells ∨ s ∈ g.vars
  | .at s i => (∃ z : Int, 0 < z ∧ (s, z) ∈ g.cells) ∧ ExW g i
  | .un k a => k ∈ UNS ∧ ExW g a
  | .bin k a b => k ∈ BINS ∧ ExW g a ∧ ExW g b
inductive Pl
  | cell (s : Str)
  | at (s : Str) (i : Ex)
def Pl.d : Pl → PyData
  | cell s => .tuple [.str "cell", .str s]
  | «at» s i => .tuple [.str "at", .str s, i.d]
def PlW (g : Env) : Pl → Prop
  | .cell s => (s, 0) ∈ g.cells
  | .at s i => (∃ z : Int, 0 < z ∧ (s, z) ∈ g.cells) ∧ ExW g i ∧ i.depth ≤ 2
def optD : Option PyData → PyData
  | none => .none
  | some d => d
inductive Stm
  | set (p : Pl) (e : Ex)
  | ifs (e : Ex) (a b : List Stm)
  | loop (name : Str) (count : Int) (e : Option Ex) (body : List Stm)
  | call (p : Option Pl) (o op : Str) (args : List Ex)
  | read (p : Pl) (port : Str)
  | write (port : Str) (e : Ex)
mutual
def Stm.d : Stm → PyData
  | .set p e => .tuple [.str "set", p.d, e.d]
  | .ifs e a b => .tuple [.str "if", e.d, .list (stmsD a), .list (stmsD b)]
  | .loop n k e b => .tuple [.str "loop", .str n, .int k, optD (e.map Ex.d), .list (stmsD b)]
  | .call p o op as => .tuple [.str "call", optD (p.map Pl.d), .str o, .str op, .list (as.map Ex.d)]
  | .read p t => .tuple [.str "read", p.d, .str t]
  | .write t e => .tuple [.str "write", .str t, e.d]
def stmsD : List Stm → List PyData
  | [] => []
  | s :: r => s.d :: stmsD r
end
def loopName (n : Nat) : Str := ("i" : Str) ++ (Str.ofString (toString (n : Int)))
mutual
/-- a statement that the law may draw at this nesting -/
def StW (g : Env) : Nat → Stm → Prop
  | _, .set p e => PlW g p ∧ ExW g e ∧ e.depth ≤ 3
  | n + 1, .ifs e a b => ExW g e ∧ e.depth ≤ 2 ∧ BodyW g n a ∧ BodyW g n b
  | 0, .ifs _ _ _ => False
  | n + 1, .loop x k e b => x = loopName (n + 1) ∧ 0 < g.loops ∧ 1 ≤ k ∧ k ≤ 4 ∧ (∀ f, e = some f → ExW g f ∧ f.depth ≤ 2) ∧ BodyW { g with vars := g.vars ++ [x], loops := g.loops - 1 } n b
  | 0, .loop _ _ _ _ => False
  | _, .call p o op as => (o, op, as.length) ∈ g.calls ∧ (∀ e ∈ as, ExW g e ∧ e.depth ≤ 2) ∧ ∀ q, p = some q → PlW g q
  | _, .read p t => PlW g p ∧ (("in" : Str), t) ∈ g.ports
  | _, .write t e => (("out" : Str), t) ∈ g.ports ∧ ExW g e ∧ e.depth ≤ 3
def BodyW (g : Env) (n : Nat) (b : List Stm) : Prop := b.length ≤ n + 1 ∧ StmsW g n b
def StmsW (g : Env) : Nat → List Stm → Prop
  | _, [] => True
  | n, s :: r => StW g n s ∧ StmsW g n r
end

/-! ### a heap without some places -/
open Classical in
noncomputable def Cut (S : Addr → Prop) (H : Hp) : Hp := fun a => if S a then none else H a
theorem Cut.sub {S : Addr → Prop} {H : Hp} : Same (Cut S H) H := fun a x h => by
  unfold Cut at h
  split at h
  · cases h
  · exact h
theorem Cut.at {S : Addr → Prop} {H : Hp} {a : Addr} {x : HO} (n : ¬ S a) (h : H a = some x) : Cut S H a = some x := by
  unfold Cut; rw [if_neg n]; exact h
theorem Cut.get {S : Addr → Prop} {H : Hp} {a : Addr} {x : HO} (h : Cut S H a = some x) : ¬ S a ∧ H a = some x := by
  unfold Cut at h
  split at h
  · cases h
  · rename_i n; exact ⟨n, h⟩
theorem Cut.mono {S S' : Addr → Prop} {H : Hp} (i : ∀ a, S' a → S a) : Same (Cut S H) (Cut S' H) := fun a x h => by
  obtain ⟨n, e⟩ := Cut.get h
  exact Cut.at (fun m => n (i a m)) e
theorem Cut.same {S : Addr → Prop} {H H' : Hp} (s : Same H H') : Same (Cut S H) (Cut S H') := fun a x h => by
  obtain ⟨n, e⟩ := Cut.get h
  exact Cut.at n (s a x e)
/-- all is kept but at the places left out -/
theorem Cut.keep {S : Addr → Prop} {H H' : Hp} (k : ∀ b x, ¬ S b → H b = some x → H' b = some x) : Same (Cut S H) (Cut S H') := fun a x h => by
  obtain ⟨n, e⟩ := Cut.get h
  exact Cut.at n (k a x n e)
theorem Cut.upd {S : Addr → Prop} {H : Hp} {a : Addr} {o : HO} (h : S a) : Same (Cut S H) (Cut S (upd H a o)) := Cut.keep fun b x n e => by
  rw [L2.upd_ne (fun z => n (by rw [z]; exact h))]; exact e
/-- a place that was free may be left out -/
theorem Cut.free {S : Addr → Prop} {H H' : Hp} {l : Addr} (s : Same H H') (n : H l = none) : Same (Cut S H) (Cut (fun a => S a ∨ a = l) H') := fun a x h => by
  obtain ⟨m, e⟩ := Cut.get h
  refine Cut.at ?_ (s a x e)
  rintro (z | rfl)
  · exact m z
  · rw [n] at e; cases e
theorem Cut.free2 {S : Addr → Prop} {H H' : Hp} {l m : Addr} (s : Same H H') (n : H l = none) (n2 : H m = none) : Same (Cut S H) (Cut (fun a => S a ∨ a = l ∨ a = m) H') := fun a x h => by
  obtain ⟨k, e⟩ := Cut.get h
  refine Cut.at ?_ (s a x e)
  rintro (z | rfl | rfl)
  · exact k z
  · rw [n] at e; cases e
  · rw [n2] at e; cases e
theorem Cut.all {H H' : Hp} (s : Same H H') : Same H (Cut (fun _ => False) H') := fun _ x h => Cut.at id (s _ x h)
/-- the places left out stand -/
def Live (S : Addr → Prop) (H : Hp) : Prop := ∀ a, S a → ∃ x, H a = some x
theorem Live.same {S : Addr → Prop} {H H' : Hp} (l : Live S H) (s : Same H H') : Live S H' := fun a m => let ⟨x, e⟩ := l a m; ⟨x, s a x e⟩
theorem Live.off {S : Addr → Prop} {H : Hp} {a : Addr} (l : Live S H) (n : H a = none) : ¬ S a := fun m => by
  obtain ⟨x, e⟩ := l a m
  rw [n] at e; cases e
theorem live0 {H : Hp} : Live (fun _ => False) H := fun _ h => h.elim
theorem Live.or {S : Addr → Prop} {H : Hp} {a : Addr} {x : HO} (l : Live S H) (h : H a = some x) : Live (fun b => S b ∨ b = a) H := fun b m => by
  rcases m with m | rfl
  · exact l b m
  · exact ⟨x, h⟩
/-! ### data: what it looks like -/
theorem dpT {K : PySem.W.Frag} {H : Hp} {v : V} {ds : List PyData} (h : Dp K H v (.tuple ds)) : ∃ t xs, v = .ref t ∧ SqT K H t xs ∧ DpAll K H xs ds := by
  cases h with
  | tup a b => exact ⟨_, _, rfl, a, b⟩
theorem dpL {K : PySem.W.Frag} {H : Hp} {v : V} {ds : List PyData} (h : Dp K H v (.list ds)) : ∃ t xs, v = .ref t ∧ SqL K H t xs ∧ DpAll K H xs ds := by
  cases h with
  | lst a b => exact ⟨_, _, rfl, a, b⟩
theorem dpS {K : PySem.W.Frag} {H : Hp} {v : V} {x : Str} (h : Dp K H v (.str x)) : v = .str x := by cases h; rfl
theorem dpI {K : PySem.W.Frag} {H : Hp} {v : V} {x : Int} (h : Dp K H v (.int x)) : v = .int x := by cases h; rfl
theorem dpN {K : PySem.W.Frag} {H : Hp} {v : V} (h : Dp K H v .none) : v = .non := by cases h; rfl
theorem dp0 {K : PySem.W.Frag} {H : Hp} {xs : List V} (h : DpAll K H xs []) : xs = [] := by cases h; rfl
theorem dp1 {K : PySem.W.Frag} {H : Hp} {xs : List V} {d : PyData} {ds : List PyData} (h : DpAll K H xs (d :: ds)) : ∃ v vs, xs = v :: vs ∧ Dp K H v d ∧ DpAll K H vs ds := by
  cases h with
  | cons a b => exact ⟨_, _, rfl, a, b⟩
theorem dp_at {K : PySem.W.Frag} {H : Hp} : ∀ {xs : List V} {ds : List PyData} {i : Nat} {d : PyData}, DpAll K H xs ds → ds[i]? = some d → ∃ v, xs[i]? = some v ∧ Dp K H v d
  | _, _, _, _, .nil, h => by simp at h
  | _, _, 0, _, .cons a _, h => by simp at h; subst h; exact ⟨_, rfl, a⟩
  | _, _, i + 1, _, .cons _ b, h => dp_at (i := i) b (by simpa using h)
theorem dp_at' {K : PySem.W.Frag} {H : Hp} : ∀ {xs : List V} {ds : List PyData} {i : Nat} {v : V}, DpAll K H xs ds → xs[i]? = some v → ∃ d, ds[i]? = some d ∧ Dp K H v d
  | _, _, _, _, .nil, h => by simp at h
  | _, _, 0, _, .cons a _, h => by simp at h; subst h; exact ⟨_, rfl, a⟩
  | _, _, i + 1, _, .cons _ b, h => dp_at' (i := i) b (by simpa using h)
theorem dps_app {K : PySem.W.Frag} {H : Hp} : ∀ {vs ws : List V} {ds es : List PyData}, DpAll K H vs ds → DpAll K H ws es → DpAll K H (vs ++ ws) (ds ++ es)
  | _, _, _, _, .nil, h => h
  | _, _, _, _, .cons a b, h => .cons a (dps_app b h)
theorem dps_set {K : PySem.W.Frag} {H : Hp} {v : V} {d : PyData} (h : Dp K H v d) : ∀ {vs : List V} {ds : List PyData} (i : Nat), DpAll K H vs ds → DpAll K H (vs.set i v) (ds.set i d)
  | _, _, _, .nil => .nil
  | _, _, 0, .cons _ b => .cons h b
  | _, _, i + 1, .cons a b => .cons a (dps_set h i b)
theorem dps_of {K : PySem.W.Frag} {H : Hp} : ∀ {vs : List V} {ds : List PyData}, vs.length = ds.length → (∀ (i : Nat) (v : V) (d : PyData), vs[i]? = some v → ds[i]? = some d → Dp K H v d) → DpAll K H vs ds
  | [], [], _, _ => .nil
  | [], _ :: _, h, _ => by simp at h
  | _ :: _, [], h, _ => by simp at h
  | v :: vs, d :: ds, h, f => .cons (f 0 v d rfl rfl) (dps_of (by simpa using h) fun i a b x y => f (i + 1) a b (by simpa using x) (by simpa using y))

/-! ### rows with names -/
/-- the rows' items 1 are these names -/
def NamedR (K : PySem.W.Frag) (H : Hp) (xs : List V) (ns : List Str) : Prop := ns.length = xs.length ∧ ∀ (i : Nat) v, xs[i]? = some v → ∃ (t : Addr) (fs : List V) (s : Str), v = .ref t ∧ SqT K H t fs ∧ fs[1]? = some (.str s) ∧ ns[i]? = some s
theorem idx_le {x : Str} : ∀ {ns : List Str} {i : Nat}, ns[i]? = some x → ns.idxOf x ≤ i
  | [], _, h => by cases h
  | y :: r, 0, h => by
    cases (Option.some.inj h)
    simp
  | y :: r, i + 1, h => by
    have h1 := idx_le (ns := r) (i := i) (by simpa using h)
    rw [List.idxOf_cons]
    cases (y == x)
    · show r.idxOf x + 1 ≤ i + 1
      omega
    · exact Nat.zero_le _
/-- the first index of a name, or -1 -/
def findN (ns : List Str) (x : Str) : Int := if x ∈ ns then ((ns.idxOf x : Nat) : Int) else -1
theorem findN_at {ns : List Str} {x : Str} {i : Nat} (h : ns[i]? = some x) (hl : ∀ j, j < i → ns[j]? ≠ some x) : findN ns x = i := by
  have hm : x ∈ ns := List.mem_of_getElem? h
  unfold findN
  rw [if_pos hm]
  have h1 : ns.idxOf x < ns.length := List.idxOf_lt_length_iff.mpr hm
  have h2 : ns[ns.idxOf x]? = some x := by
    rw [List.getElem?_eq_getElem h1, List.getElem_idxOf]
  have h3 : ¬ ns.idxOf x < i := fun z => hl _ z h2
  have h4 : ns.idxOf x ≤ i := idx_le h
  congr 1
  omega
section
variable {P : Program} {w : World} {K : PySem.W.Frag} {mg : Str → Option Value} {base : Heap}
def sp_find (K : PySem.W.Frag) : Sp := fun vs H Q _ => ∃ (L : Addr) (xs : List V) (ns : List Str) (x : Str), vs = [.ref L, .str x] ∧ SqL K H L xs ∧ NamedR K H xs ns ∧ xs.length < 1000 ∧ ∀ H', Same H H' → Q (.int (findN ns x)) H'
theorem ok_find (T : Top K mg) : FnOk P w K mg base CX0 1 T.a_find T.d_find ["rows", "name"]  (sp_find K) := by
  refine T.F_find.ok sc_find (fun vs H Q E h => ?_) (fun cdv A outer s H vs Q E hr h => ?_)
  · obtain ⟨_, _, _, _, rfl, _⟩ := h
    rfl
  · obtain ⟨L, xs, ns, x, rfl, hl, ⟨nl, nn⟩, few, q⟩ := h
    refine ⟨_, (pss_cons (ps_for PassesOwn.never rfl (pi_enum (by rfl) T.m_enumerate (pa_cons (pv 0) pa_nil)) (pg_tup rfl (pgs_cons (pg_name (i := 2) sc_find.nd rfl (by first | exact Or.inl rfl | exact Or.inr rfl)) (pgs_cons (pg_name (i := 3) sc_find.nd rfl (by first | exact Or.inl rfl | exact Or.inr rfl)) pgs_nil)))
  (pss_one (ps_if (pt_cmpR op_eq (pe_ix ix_tup (pv 3) pe_int (fun _ _ => rfl)) (pv 1) (nomark _))
  (pss_one (ps_ret (pv 2)))
  pss_nil)))
  (pss_one (ps_ret (pe_un un_neg pe_int)))), ?_⟩
    refine ⟨_, rfl, L, _, rfl, hl, for_enum (xs := xs) (fun i σ H' => ∃ y2 y3, σ = [some (.ref L), some (.str x), y2, y3] ∧ Same H H' ∧ ∀ (j : Nat), j < i → ns[j]? ≠ some x) ⟨none, none, rfl, fun _ _ h => h, fun j hj => absurd hj (Nat.not_lt_zero _)⟩
        (fun i σ H' _ ⟨_, _, _, s1, _⟩ => s1.seq hl) ?_ ?_⟩
    · rintro i v Tt σ H' hv ⟨y2, y3, rfl, s1, hf⟩ nT
      obtain ⟨t, fs, s, rfl, ht, h1, h2⟩ := nn i v hv
      have s2 : Same H (upd H' Tt (.tup [.int i, .ref t])) := s1.trans (same_new nT)
      refine ⟨Tt, _, rfl, SqT.of upd_same, rfl, _, _, rfl, _, _, rfl, rfl, ?_⟩
      have ht2 := s2.seqT ht
      dsimp only [List.set]
      walk_at "my rn"
      refine Rd.ixTq ht2 (Rd.at_val (j := 1) rfl h1) ?_
      walk_at "my rn"
      refine Rd.ifD (fun e => ?_) fun e => ?_
      · cases e
        walk_at "my rn"
        have q1 := q _ s2
        rw [findN_at h2 hf] at q1
        exact q1
      · exact ⟨_, _, rfl, s2, fun j hj z => by
          by_cases ji : j = i
          · subst ji
            rw [h2] at z
            cases z
            exact e rfl
          · exact hf j (by omega) z⟩
    · rintro σ H1 ⟨y2, y3, rfl, s1, hf⟩
      have e : findN ns x = -1 := by
        unfold findN
        rw [if_neg fun m => ?_]
        obtain ⟨j, hj⟩ := List.getElem?_of_mem m
        have := (List.getElem?_eq_some_iff.mp hj).1
        exact hf j (by omega) hj
      have q1 := q H1 s1
      rw [e] at q1
      walk_at "my rn"
      exact q1
end

theorem _root_.L2.Rd.inIq {K : PySem.W.Frag} {H : Hp} {Q : VK} {p : Addr} {ns : List Int} {n : Int} (h : SqL K H p (ns.map V.int)) (q : Q (.bl (decide (n ∈ ns))) H) : rIn K false (.int n) (.ref p) H Q :=
  ⟨p, _, rfl, .inl h, rfl, Rd.flat_ints _, by rw [Rd.inV_ints]; exact q⟩
section
variable {P : Program} {w : World} {K : PySem.W.Frag} {mg : Str → Option Value} {base : Heap}
def sp__overlap (K : PySem.W.Frag) : Sp := fun vs H Q _ => ∃ (a b : Addr) (ns ms : List Int), vs = [.ref a, .ref b] ∧ SqL K H a (ns.map V.int) ∧ SqL K H b (ms.map V.int) ∧ ns.length < 1000 ∧ ms.length < 1000 ∧
  ∀ H', Same H H' → Q (.bl (ns.any fun i => decide (i ∈ ms))) H'
theorem ok__overlap (T : Top K mg) : FnOk P w K mg base CX0 1 T.a__overlap T.d__overlap ["row", "other"]  (sp__overlap K) := by
  refine T.F__overlap.ok sc__overlap (fun vs H Q E h => ?_) (fun cdv A outer s H vs Q E hr h => ?_)
  · obtain ⟨_, _, _, _, rfl, _⟩ := h
    rfl
  · obtain ⟨a, b, ns, ms, rfl, h1, h2, l1, l2, q⟩ := h
    refine ⟨_, (pss_one (ps_ret (pe_callB (cr_any rfl) (by rfl) T.m_any (by decide +kernel) (pa_cons (pe_lc (own := [("index", 2)]) (g := gName 2) (tt := tYes) rfl sc__overlap.nd (pi_list (pv 0)) (blkOk_by (N := ["row", "other", "index"]) (sc := defScope s__overlap) (by decide +kernel)) (fun _ _ _ _ _ => pg_name (i := 2) sc__overlap.nd rfl (Or.inl rfl)) (fun _ _ _ _ _ => pts_nil) (fun _ _ _ _ _ => (pe_cmpR (show OpR _ (compareOp .In) (rIn K false) from op_in_seq) (pv 2) (pv 1) (by with_unfolding_all rfl)))) pa_nil)))), ?_⟩
    rw [show ∀ a0 a1 : V, L2.start ["row", "other", "index"] [a0, a1] = [some a0, some a1, none] from fun _ _ => rfl]
    walk_at "my rn"
    refine fun D nD => Rd.lc_rel (walk_list (xs := ns.map V.int)) (fun i v _ => v = .bl (decide (ns.getD i 0 ∈ ms))) nD (by rw [List.length_map]; omega)
      (fun i v H1 H2 h b => h) (fun H1 b => (b.to nD).seq h1) (fun i x H1 H2 Kt hi b hDl y kt => ?_) (fun H1 ys ly hy sm hD => ?_)
    · obtain ⟨rfl, hx⟩ := y
      obtain ⟨n, hn, rfl⟩ : ∃ n, ns[i]? = some n ∧ V.int n = x := by
        rw [List.getElem?_map] at hx
        cases e : ns[i]? with
        | none => rw [e] at hx; cases hx
        | some n => rw [e] at hx; exact ⟨n, rfl, Option.some.inj hx⟩
      simp only [List.map_cons, List.map_nil, L2.wipe, List.set_cons_succ, List.set_cons_zero]
      walk_at "my rd"
      refine ⟨rfl, ?_⟩
      walk_at "my rd"
      refine Rd.inIq ((b.to nD).seq h2) (kt _ _ ?_ (Same.refl _))
      rw [List.getD_eq_getElem?_getD, hn]
      rfl
    · walk_at "my rn"
      have e : ys = (ns.map fun i => decide (i ∈ ms)).map V.bl := by
        refine List.ext_getElem? fun i => ?_
        rw [List.getElem?_map, List.getElem?_map]
        cases e : ns[i]? with
        | none =>
          have := List.getElem?_eq_none_iff.mp e
          rw [List.getElem?_eq_none_iff.mpr (by rw [ly, List.length_map]; exact this)]
          rfl
        | some n =>
          have il := (List.getElem?_eq_some_iff.mp e).1
          have iy : i < ys.length := by rw [ly, List.length_map]; exact il
          rw [List.getElem?_eq_getElem iy]
          have := hy i _ (List.getElem?_eq_getElem iy)
          rw [this, List.getD_eq_getElem?_getD, e]
          rfl
      rw [e] at hD
      refine Rd.anyL hD ?_
      have q1 := q _ sm
      rw [show (List.map (fun i => decide (i ∈ ms)) ns).any id = ns.any fun i => decide (i ∈ ms) from by rw [List.any_map]; rfl]
      exact q1
end

/-! ### deadbeat.trees: the statements of a body -/
mutual
def Stm.flat : Stm → List Stm
  | .set p e => [.set p e]
  | .ifs e a b => .ifs e a b :: (flats a ++ flats b)
  | .loop n k e b => .loop n k e b :: flats b
  | .call p o op as => [.call p o op as]
  | .read p t => [.read p t]
  | .write t e => [.write t e]
def flats : List Stm → List Stm
  | [] => []
  | s :: r => s.flat ++ flats r
end
mutual
def Stm.nest : Stm → Nat
  | .set _ _ => 0
  | .ifs _ a b => 1 + max (nests a) (nests b)
  | .loop _ _ _ b => 1 + nests b
  | .call _ _ _ _ => 0
  | .read _ _ => 0
  | .write _ _ => 0
def nests : List Stm → Nat
  | [] => 0
  | s :: r => max s.nest (nests r)
end
def Stm.kids : Stm → List Stm
  | .ifs _ a b => a ++ b
  | .loop _ _ _ b => b
  | _ => []
theorem flats_app : ∀ a b : List Stm, flats (a ++ b) = flats a ++ flats b
  | [], b => rfl
  | s :: r, b => by
    show s.flat ++ flats (r ++ b) = (s.flat ++ flats r) ++ flats b
    rw [flats_app r b, List.append_assoc]
theorem flat_kids : ∀ s : Stm, s.flat = s :: flats s.kids
  | .set _ _ => by unfold Stm.flat Stm.kids flats; rfl
  | .ifs _ a b => by unfold Stm.flat Stm.kids; rw [flats_app]
  | .loop _ _ _ b => by unfold Stm.flat Stm.kids; rfl
  | .call _ _ _ _ => by unfold Stm.flat Stm.kids flats; rfl
  | .read _ _ => by unfold Stm.flat Stm.kids flats; rfl
  | .write _ _ => by unfold Stm.flat Stm.kids flats; rfl
theorem flats_cons (s : Stm) (r : List Stm) : flats (s :: r) = s :: flats (s.kids ++ r) := by
  show s.flat ++ flats r = _
  rw [flat_kids, flats_app]; rfl
theorem flats_len : ∀ b : List Stm, b.length ≤ (flats b).length
  | [] => Nat.zero_le _
  | s :: r => by
    rw [flats_cons, flats_app]
    have := flats_len r
    simp only [List.length_cons, List.length_append]
    omega
theorem stmsD_map : ∀ b : List Stm, stmsD b = b.map Stm.d
  | [] => rfl
  | s :: r => by
    show s.d :: stmsD r = s.d :: r.map Stm.d
    rw [stmsD_map r]
theorem stmsD_app (a b : List Stm) : stmsD (a ++ b) = stmsD a ++ stmsD b := by
  rw [stmsD_map, stmsD_map, stmsD_map, List.map_append]
theorem nests_mem {b : List Stm} {s : Stm} : s ∈ b → s.nest ≤ nests b := by
  induction b with
  | nil => intro h; cases h
  | cons a r ih =>
    intro h
    show s.nest ≤ max a.nest (nests r)
    rcases List.mem_cons.mp h with rfl | h
    · exact Nat.le_max_left _ _
    · exact Nat.le_trans (ih h) (Nat.le_max_right _ _)
theorem flats_mem {b : List Stm} {s : Stm} (h : s ∈ b) : s.flat.length ≤ (flats b).length := by
  induction b with
  | nil => cases h
  | cons a r ih =>
    show s.flat.length ≤ (a.flat ++ flats r).length
    rw [List.length_append]
    rcases List.mem_cons.mp h with rfl | h
    · omega
    · have := ih h; omega
theorem Cut.but {S : Addr → Prop} {H1 H : Hp} {D : Addr} (n : H1 D = none) (b : Rd.But D H1 H) : Same (Cut S H1) (Cut (fun a => S a ∨ a = D) H) := fun a x h => by
  obtain ⟨m, e⟩ := Cut.get h
  have ne : a ≠ D := fun z => by rw [z, n] at e; cases e
  refine Cut.at ?_ (b a x ne e)
  rintro (z | z)
  · exact m z
  · exact ne z
theorem Live.but {S : Addr → Prop} {H1 H : Hp} {D : Addr} (l : Live S H1) (n : H1 D = none) (b : Rd.But D H1 H) (hD : ∃ x, H D = some x) : Live (fun a => S a ∨ a = D) H := fun a m => by
  rcases m with m | rfl
  · obtain ⟨x, e⟩ := l a m
    exact ⟨x, b a x (fun z => by rw [z, n] at e; cases e) e⟩
  · exact hD
theorem last_at' {α : Type} (xs : List α) (x : α) : (xs ++ [x])[(xs ++ [x]).length - 1]? = some x := by simp
section
variable {P : Program} {w : World} {K : PySem.W.Frag} {mg : Str → Option Value} {base : Heap}
def sp__copied (K : PySem.W.Frag) (n : Nat) : Sp := fun vs H Q _ => ∃ (S : Addr → Prop) (v : V) (b : List Stm), vs = [v] ∧ Live S H ∧ Dp K (Cut S H) v (.list (stmsD b)) ∧ nests b ≤ n ∧ (flats b).length ≤ 50000 ∧
  ∀ (L : Addr) (ws : List V) (H' : Hp), Same H H' → H L = none → H' L = some (.lst ws) → DpAll K (Cut S H') ws (stmsD b) → Q (.ref L) H'
def sp__copied_statement (K : PySem.W.Frag) (n : Nat) : Sp := fun vs H Q _ => ∃ (S : Addr → Prop) (v : V) (s : Stm), vs = [v] ∧ Live S H ∧ Dp K (Cut S H) v s.d ∧ s.nest ≤ n ∧ s.flat.length ≤ 50000 ∧
  ∀ (v' : V) (H' : Hp), Same H H' → Dp K (Cut S H') v' s.d → Q v' H'
theorem step__copied (T : Top K mg) {d n : Nat} (hd : 1 ≤ 3 + d) (ihS : Top K mg → FnOk P w K mg base CX0 (3 + d) T.a__copied_statement T.d__copied_statement ["statement"] (sp__copied_statement K n)) :
    FnOk P w K mg base CX0 (3 + d + 1) T.a__copied T.d__copied ["body"] (sp__copied K n) := by
  refine T.F__copied.ok sc__copied (fun vs H Q E h => ?_) (fun cdv A outer s H vs Q E hr h => ?_)
  · obtain ⟨_, _, _, rfl, _⟩ := h
    rfl
  · obtain ⟨S, v, b, rfl, lv, dv, ne, sm, q⟩ := h
    refine ⟨_, (pss_one (ps_ret (pe_lc (own := [("statement", 1)]) (g := gName 1) (tt := tYes) rfl sc__copied.nd (pi_list (pv 0)) (blkOk_by (N := ["body", "statement"]) (sc := defScope s__copied) (by decide +kernel)) (fun _ _ _ _ _ => pg_name (i := 1) sc__copied.nd rfl (Or.inl rfl)) (fun _ _ _ _ _ => pts_nil) (fun _ _ _ _ _ => (pe_call (ihS T) (hr.mono (by show _ ≤ 3 + d; omega)) (by rfl) T.g__copied_statement T.F__copied_statement.kp T.b__copied_statement .nil pass0 (pa_cons (pv 1) pa_nil)))))), ?_⟩
    obtain ⟨t, xs, rfl, hx, ha⟩ := dpL dv
    have hx := Cut.sub.seq hx
    have lx : xs.length = b.length := by rw [dps_len ha, stmsD_map, List.length_map]
    have lb := flats_len b
    rw [show ∀ a0 : V, L2.start ["body", "statement"] [a0] = [some a0, none] from fun _ => rfl]
    walk_at "my rn"
    refine fun D nD => Rd.lc_rel (walk_list (xs := xs)) (fun i y H' => ∃ d, (stmsD b)[i]? = some d ∧ Dp K (Cut (fun a => S a ∨ a = D) H') y d) nD (by omega)
      (fun i y H1 H2 h bt => ?_) (fun H1 bt => (bt.to nD).seq hx) (fun i x H1 H2 Kt hi bt hDl y kt => ?_) (fun H1 ys ly hy sm2 hD => ?_)
    · obtain ⟨d, e, h⟩ := h
      exact ⟨d, e, dp_same (Cut.keep fun b x n e => bt b x (fun z => n (.inr z)) e) h⟩
    · obtain ⟨rfl, hxi⟩ := y
      obtain ⟨d, e, dd⟩ := dp_at' ha hxi
      obtain ⟨s, es, rfl⟩ : ∃ s, b[i]? = some s ∧ s.d = d := by
        rw [stmsD_map, List.getElem?_map] at e
        cases z : b[i]? with
        | none => rw [z] at e; cases e
        | some s => rw [z] at e; exact ⟨s, rfl, Option.some.inj e⟩
      have ms := List.mem_of_getElem? es
      simp only [List.map_cons, List.map_nil, L2.wipe, List.set_cons_succ, List.set_cons_zero]
      walk_at "my rn"
      refine ⟨rfl, ?_⟩
      walk_at "my rn"
      refine ⟨fun a => S a ∨ a = D, x, s, rfl, lv.but nD bt (by obtain ⟨xs, h⟩ := hDl; exact ⟨_, h⟩), dp_same (Cut.but nD bt) dd, Nat.le_trans (nests_mem ms) ne, Nat.le_trans (flats_mem ms) sm, fun v' H3 s3 d3 => ?_⟩
      exact kt _ _ ⟨_, e, d3⟩ s3
    · have al : DpAll K (Cut S H1) ys (stmsD b) := dps_of (by rw [ly, lx, stmsD_map, List.length_map]) fun i v d h1 h2 => by
        obtain ⟨d', e, h⟩ := hy i v h1
        rw [h2] at e; cases e
        exact dp_same (Cut.mono fun a m => .inl m) h
      walk_at "my rn"
      exact q D ys H1 sm2 nD hD al
theorem step__copied_statement (T : Top K mg) {d n : Nat} {spB : Sp} (hd : 1 ≤ 3 + d) (ihB : Top K mg → FnOk P w K mg base CX0 (3 + d) T.a__copied T.d__copied ["body"] spB) (imp : ∀ (n' : Nat) vs H Q E, n = n' + 1 → sp__copied K n' vs H Q E → spB vs H Q E) :
    FnOk P w K mg base CX0 (3 + d + 1) T.a__copied_statement T.d__copied_statement ["statement"] (sp__copied_statement K n) := by
  refine T.F__copied_statement.ok sc__copied_statement (fun vs H Q E h => ?_) (fun cdv A outer s H vs Q E hr h => ?_)
  · obtain ⟨_, _, _, rfl, _⟩ := h
    rfl
  · obtain ⟨S, v, s, rfl, lv, dv, ne, sm, q⟩ := h
    refine ⟨_, (pss_cons (ps_set (i := 1) sc__copied_statement.nd rfl (by first | exact Or.inl rfl | exact Or.inr rfl) (pe_ix ix_tup (pv 0) pe_int (fun _ _ => rfl)))
  (pss_cons (ps_if (pt_cmpR op_eq (pv 1) pe_str (nomark _))
  (pss_cons (ps_asg (pv 0) (pg_tup rfl (pgs_cons (pg_name (i := 2) sc__copied_statement.nd rfl (by first | exact Or.inl rfl | exact Or.inr rfl)) (pgs_cons (pg_name (i := 3) sc__copied_statement.nd rfl (by first | exact Or.inl rfl | exact Or.inr rfl)) (pgs_cons (pg_name (i := 4) sc__copied_statement.nd rfl (by first | exact Or.inl rfl | exact Or.inr rfl)) (pgs_cons (pg_name (i := 5) sc__copied_statement.nd rfl (by first | exact Or.inl rfl | exact Or.inr rfl)) pgs_nil))))))
  (pss_one (ps_ret (pe_tup (pa_cons pe_str (pa_cons (pv 3) (pa_cons (pe_call (ihB T) (hr.mono (by show _ ≤ 3 + d; omega)) (by rfl) T.g__copied T.F__copied.kp T.b__copied .nil pass0 (pa_cons (pv 4) pa_nil)) (pa_cons (pe_call (ihB T) (hr.mono (by show _ ≤ 3 + d; omega)) (by rfl) T.g__copied T.F__copied.kp T.b__copied .nil pass0 (pa_cons (pv 5) pa_nil)) pa_nil))))))))
  pss_nil)
  (pss_cons (ps_if (pt_cmpR op_eq (pv 1) pe_str (nomark _))
  (pss_cons (ps_asg (pv 0) (pg_tup rfl (pgs_cons (pg_name (i := 2) sc__copied_statement.nd rfl (by first | exact Or.inl rfl | exact Or.inr rfl)) (pgs_cons (pg_name (i := 6) sc__copied_statement.nd rfl (by first | exact Or.inl rfl | exact Or.inr rfl)) (pgs_cons (pg_name (i := 7) sc__copied_statement.nd rfl (by first | exact Or.inl rfl | exact Or.inr rfl)) (pgs_cons (pg_name (i := 3) sc__copied_statement.nd rfl (by first | exact Or.inl rfl | exact Or.inr rfl)) (pgs_cons (pg_name (i := 8) sc__copied_statement.nd rfl (by first | exact Or.inl rfl | exact Or.inr rfl)) pgs_nil)))))))
  (pss_one (ps_ret (pe_tup (pa_cons pe_str (pa_cons (pv 6) (pa_cons (pv 7) (pa_cons (pv 3) (pa_cons (pe_call (ihB T) (hr.mono (by show _ ≤ 3 + d; omega)) (by rfl) T.g__copied T.F__copied.kp T.b__copied .nil pass0 (pa_cons (pv 8) pa_nil)) pa_nil)))))))))
  pss_nil)
  (pss_cons (ps_if (pt_cmpR op_eq (pv 1) pe_str (nomark _))
  (pss_cons (ps_asg (pv 0) (pg_tup rfl (pgs_cons (pg_name (i := 2) sc__copied_statement.nd rfl (by first | exact Or.inl rfl | exact Or.inr rfl)) (pgs_cons (pg_name (i := 9) sc__copied_statement.nd rfl (by first | exact Or.inl rfl | exact Or.inr rfl)) (pgs_cons (pg_name (i := 10) sc__copied_statement.nd rfl (by first | exact Or.inl rfl | exact Or.inr rfl)) (pgs_cons (pg_name (i := 11) sc__copied_statement.nd rfl (by first | exact Or.inl rfl | exact Or.inr rfl)) (pgs_cons (pg_name (i := 12) sc__copied_statement.nd rfl (by first | exact Or.inl rfl | exact Or.inr rfl)) pgs_nil)))))))
  (pss_one (ps_ret (pe_tup (pa_cons pe_str (pa_cons (pv 9) (pa_cons (pv 10) (pa_cons (pv 11) (pa_cons (pe_callTy call_list_of (by rfl) T.m_list (by decide +kernel) (pa_cons (pv 12) pa_nil)) pa_nil)))))))))
  pss_nil)
  (pss_one (ps_ret (pv 0))))))), ?_⟩
    have kne : ∀ a b : Str, decide (V.str a = V.str b) = decide (a = b) := fun a b => by
      by_cases h : a = b
      · rw [decide_eq_true h, decide_eq_true (by rw [h])]
      · rw [decide_eq_false h, decide_eq_false (fun z => h (V.str.inj z))]
    rw [show ∀ a0 : V, L2.start ["statement", "kind", "_", "e", "then", "other", "name", "count", "body", "place", "thing", "operation", "given"] [a0] = [some a0, none, none, none, none, none, none, none, none, none, none, none, none] from fun _ => rfl]
    cases s with
    | set p e =>
      obtain ⟨t, xs, rfl, hx, ha⟩ := dpT dv
      obtain ⟨v0, x0, rfl, d0, ha⟩ := dp1 ha
      have hx := Same.seqT Cut.sub hx
      cases dpS d0
      walk_at "my rn"
      refine Rd.ixTq hx (Rd.at_val (j := 0) rfl rfl) ?_
      walk_at "my rn"
      refine Rd.ifD (fun z => absurd (V.str.inj z) (by decide +kernel)) fun _ => ?_
      walk_at "my rn"
      refine Rd.ifD (fun z => absurd (V.str.inj z) (by decide +kernel)) fun _ => ?_
      walk_at "my rn"
      refine Rd.ifD (fun z => absurd (V.str.inj z) (by decide +kernel)) fun _ => ?_
      walk_at "my rn"
      exact q _ _ (Same.refl _) dv
    | ifs e a b =>
      obtain ⟨t, xs, rfl, hx, ha⟩ := dpT dv
      obtain ⟨v0, x0, rfl, d0, ha⟩ := dp1 ha
      obtain ⟨v1, x0, rfl, d1, ha⟩ := dp1 ha
      obtain ⟨v2, x0, rfl, d2, ha⟩ := dp1 ha
      obtain ⟨v3, x0, rfl, d3, ha⟩ := dp1 ha
      cases dp0 ha
      have hx := Same.seqT Cut.sub hx
      cases dpS d0
      obtain ⟨n', rfl⟩ : ∃ n', n = n' + 1 := ⟨n - 1, by simp only [Stm.nest] at ne; omega⟩
      simp only [Stm.nest] at ne
      simp only [Stm.flat, List.length_cons, List.length_append] at sm
      walk_at "my rn"
      refine Rd.ifD (fun _ => ?_) fun z => absurd rfl z
      walk_at "my rn"
      refine imp n' _ _ _ _ rfl ⟨S, v2, a, rfl, lv, d2, by omega, by omega, fun L ws H1 s1 nL hL al => ?_⟩
      walk_at "my rn"
      refine imp n' _ _ _ _ rfl ⟨S, v3, b, rfl, lv.same s1, dp_same (Cut.same s1) d3, by omega, by omega, fun L2 ws2 H2 s2 nL2 hL2 al2 => ?_⟩
      walk_at "my rn"
      intro p H3 np s3 hp
      have s13 := s2.trans s3
      have o1 := lv.off nL
      have o2 := (lv.same s1).off nL2
      have o3 := ((lv.same s1).same s2).off np
      exact q _ H3 (s1.trans s13) (.tup (SqT.of (Cut.at o3 hp)) (.cons (.str _) (.cons (dp_same (Cut.same (s1.trans s13)) d1) (.cons (.lst (SqL.of (Cut.at o1 (s13 _ _ hL))) (dps_same (Cut.same s13) al)) (.cons (.lst (SqL.of (Cut.at o2 (s3 _ _ hL2))) (dps_same (Cut.same s3) al2)) .nil)))))
    | loop nm k e b =>
      obtain ⟨t, xs, rfl, hx, ha⟩ := dpT dv
      obtain ⟨v0, x0, rfl, d0, ha⟩ := dp1 ha
      obtain ⟨v1, x0, rfl, d1, ha⟩ := dp1 ha
      obtain ⟨v2, x0, rfl, d2, ha⟩ := dp1 ha
      obtain ⟨v3, x0, rfl, d3, ha⟩ := dp1 ha
      obtain ⟨v4, x0, rfl, d4, ha⟩ := dp1 ha
      cases dp0 ha
      have hx := Same.seqT Cut.sub hx
      cases dpS d0
      obtain ⟨n', rfl⟩ : ∃ n', n = n' + 1 := ⟨n - 1, by simp only [Stm.nest] at ne; omega⟩
      simp only [Stm.nest] at ne
      simp only [Stm.flat, List.length_cons, List.length_append] at sm
      walk_at "my rn"
      refine Rd.ifD (fun z => absurd (V.str.inj z) (by decide +kernel)) fun _ => ?_
      walk_at "my rn"
      refine Rd.ifD (fun _ => ?_) fun z => absurd rfl z
      walk_at "my rn"
      refine imp n' _ _ _ _ rfl ⟨S, v4, b, rfl, lv, d4, by omega, by omega, fun L ws H1 s1 nL hL al => ?_⟩
      walk_at "my rn"
      intro p H3 np s3 hp
      have o1 := lv.off nL
      have o3 := (lv.same s1).off np
      exact q _ H3 (s1.trans s3) (.tup (SqT.of (Cut.at o3 hp)) (.cons (.str _) (.cons (dp_same (Cut.same (s1.trans s3)) d1) (.cons (dp_same (Cut.same (s1.trans s3)) d2) (.cons (dp_same (Cut.same (s1.trans s3)) d3) (.cons (.lst (SqL.of (Cut.at o1 (s3 _ _ hL))) (dps_same (Cut.same s3) al)) .nil))))))
    | call p o op as =>
      obtain ⟨t, xs, rfl, hx, ha⟩ := dpT dv
      obtain ⟨v0, x0, rfl, d0, ha⟩ := dp1 ha
      obtain ⟨v1, x0, rfl, d1, ha⟩ := dp1 ha
      obtain ⟨v2, x0, rfl, d2, ha⟩ := dp1 ha
      obtain ⟨v3, x0, rfl, d3, ha⟩ := dp1 ha
      obtain ⟨v4, x0, rfl, d4, ha⟩ := dp1 ha
      cases dp0 ha
      have hx := Same.seqT Cut.sub hx
      cases dpS d0
      obtain ⟨t4, ys, rfl, hy, ha⟩ := dpL d4
      have hy := Cut.sub.seq hy
      walk_at "my rn"
      refine Rd.ifD (fun z => absurd (V.str.inj z) (by decide +kernel)) fun _ => ?_
      walk_at "my rn"
      refine Rd.ifD (fun z => absurd (V.str.inj z) (by decide +kernel)) fun _ => ?_
      walk_at "my rn"
      refine Rd.ifD (fun _ => ?_) fun z => absurd rfl z
      walk_at "my rn"
      intro L H1 nL s1 hL
      walk_at "my rn"
      intro p H3 np s3 hp
      have o1 := lv.off nL
      have o3 := (lv.same s1).off np
      have s13 := s1.trans s3
      exact q _ H3 s13 (.tup (SqT.of (Cut.at o3 hp)) (.cons (.str _) (.cons (dp_same (Cut.same s13) d1) (.cons (dp_same (Cut.same s13) d2) (.cons (dp_same (Cut.same s13) d3) (.cons (.lst (SqL.of (Cut.at o1 (s3 _ _ hL))) (dps_same (Cut.same s13) ha)) .nil))))))
    | read p t =>
      obtain ⟨t, xs, rfl, hx, ha⟩ := dpT dv
      obtain ⟨v0, x0, rfl, d0, ha⟩ := dp1 ha
      have hx := Same.seqT Cut.sub hx
      cases dpS d0
      walk_at "my rn"
      refine Rd.ixTq hx (Rd.at_val (j := 0) rfl rfl) ?_
      walk_at "my rn"
      refine Rd.ifD (fun z => absurd (V.str.inj z) (by decide +kernel)) fun _ => ?_
      walk_at "my rn"
      refine Rd.ifD (fun z => absurd (V.str.inj z) (by decide +kernel)) fun _ => ?_
      walk_at "my rn"
      refine Rd.ifD (fun z => absurd (V.str.inj z) (by decide +kernel)) fun _ => ?_
      walk_at "my rn"
      exact q _ _ (Same.refl _) dv
    | write t e =>
      obtain ⟨t, xs, rfl, hx, ha⟩ := dpT dv
      obtain ⟨v0, x0, rfl, d0, ha⟩ := dp1 ha
      have hx := Same.seqT Cut.sub hx
      cases dpS d0
      walk_at "my rn"
      refine Rd.ixTq hx (Rd.at_val (j := 0) rfl rfl) ?_
      walk_at "my rn"
      refine Rd.ifD (fun z => absurd (V.str.inj z) (by decide +kernel)) fun _ => ?_
      walk_at "my rn"
      refine Rd.ifD (fun z => absurd (V.str.inj z) (by decide +kernel)) fun _ => ?_
      walk_at "my rn"
      refine Rd.ifD (fun z => absurd (V.str.inj z) (by decide +kernel)) fun _ => ?_
      walk_at "my rn"
      exact q _ _ (Same.refl _) dv
/-- both, to a nesting of 7 -/
theorem copied_both (T : Top K mg) : ∀ n : Nat, n ≤ 7 → FnOk P w K mg base CX0 (3 + 2 * n + 1) T.a__copied_statement T.d__copied_statement ["statement"] (sp__copied_statement K n) ∧ FnOk P w K mg base CX0 (3 + (2 * n + 1) + 1) T.a__copied T.d__copied ["body"] (sp__copied K n)
  | 0, h => by
    have a := step__copied_statement (P := P) (w := w) (base := base) (spB := fun _ _ _ _ => False) T (d := 0) (n := 0) (by omega) (fun _ => ⟨fun _ _ _ _ h => h.elim, fun _ _ _ _ _ _ _ _ _ _ _ _ _ h => h.elim⟩) fun n' _ _ _ _ z => absurd z.symm (Nat.succ_ne_zero n')
    exact ⟨a, step__copied (P := P) (w := w) (base := base) T (d := 1) (n := 0) (by omega) fun _ => a⟩
  | n + 1, h => by
    have b := (copied_both T n (by omega)).2
    have a := step__copied_statement (P := P) (w := w) (base := base) T (d := 2 * (n + 1)) (n := n + 1) (by omega) (fun _ => b.mono (by omega)) fun n' vs H Q E z q => by
      cases z
      exact q
    exact ⟨a, step__copied (P := P) (w := w) (base := base) T (d := 2 * (n + 1) + 1) (n := n + 1) (by omega) fun _ => a.mono (by omega)⟩
theorem ok__copied (T : Top K mg) : FnOk P w K mg base CX0 20 T.a__copied T.d__copied ["body"] (sp__copied K 7) := (copied_both T 7 (by decide)).2.mono (by decide)
def sp__inside (K : PySem.W.Frag) : Sp := fun vs H Q _ => ∃ (S : Addr → Prop) (v : V) (s : Stm), vs = [v] ∧ Live S H ∧ Dp K (Cut S H) v s.d ∧ s.kids.length ≤ 50000 ∧
  ∀ (L : Addr) (ws : List V) (H' : Hp), Same H H' → SqL K H' L ws → DpAll K (Cut S H') ws (stmsD s.kids) → Q (.ref L) H'
theorem ok__inside (T : Top K mg) : FnOk P w K mg base CX0 1 T.a__inside T.d__inside ["statement"]  (sp__inside K) := by
  refine T.F__inside.ok sc__inside (fun vs H Q E h => ?_) (fun cdv A outer s H vs Q E hr h => ?_)
  · obtain ⟨_, _, _, rfl, _⟩ := h
    rfl
  · obtain ⟨S, v, s, rfl, lv, dv, sm, q⟩ := h
    refine ⟨_, (pss_cons (ps_if (pt_cmpR op_eq (pe_ix ix_tup (pv 0) pe_int (fun _ _ => rfl)) pe_str (nomark _))
  (pss_one (ps_ret (pe_op op_catQ (pe_ix ix_tup (pv 0) pe_int (fun _ _ => rfl)) (pe_ix ix_tup (pv 0) pe_int (fun _ _ => rfl)))))
  pss_nil)
  (pss_cons (ps_if (pt_cmpR op_eq (pe_ix ix_tup (pv 0) pe_int (fun _ _ => rfl)) pe_str (nomark _))
  (pss_one (ps_ret (pe_ix ix_tup (pv 0) pe_int (fun _ _ => rfl))))
  pss_nil)
  (pss_one (ps_ret (pe_lst pa_nil))))), ?_⟩
    rw [show ∀ a0 : V, L2.start ["statement"] [a0] = [some a0] from fun _ => rfl]
    cases s with
    | set p e =>
      obtain ⟨t, xs, rfl, hx, ha⟩ := dpT dv
      obtain ⟨v0, x0, rfl, d0, ha⟩ := dp1 ha
      have hx := Same.seqT Cut.sub hx
      cases dpS d0
      walk_at "my rn"
      refine Rd.ixTq hx (Rd.at_val (j := 0) rfl rfl) ?_
      walk_at "my rn"
      refine Rd.ifD (fun z => absurd (V.str.inj z) (by decide +kernel)) fun _ => ?_
      walk_at "my rn"
      refine Rd.ixTq hx (Rd.at_val (j := 0) rfl rfl) ?_
      walk_at "my rn"
      refine Rd.ifD (fun z => absurd (V.str.inj z) (by decide +kernel)) fun _ => ?_
      walk_at "my rn"
      intro L H1 nL s1 hL
      exact q _ _ _ s1 (SqL.of hL) .nil
    | ifs e a b =>
      obtain ⟨t, xs, rfl, hx, ha⟩ := dpT dv
      obtain ⟨v0, x0, rfl, d0, ha⟩ := dp1 ha
      obtain ⟨v1, x0, rfl, d1, ha⟩ := dp1 ha
      obtain ⟨v2, x0, rfl, d2, ha⟩ := dp1 ha
      obtain ⟨v3, x0, rfl, d3, ha⟩ := dp1 ha
      cases dp0 ha
      have hx := Same.seqT Cut.sub hx
      cases dpS d0
      obtain ⟨ta, xa, rfl, hxa, haa⟩ := dpL d2
      obtain ⟨tb, xb, rfl, hxb, hab⟩ := dpL d3
      have hxa := Cut.sub.seq hxa
      have hxb := Cut.sub.seq hxb
      have la := dps_len haa
      have lb := dps_len hab
      rw [stmsD_map, List.length_map] at la lb
      simp only [Stm.kids, List.length_append] at sm
      walk_at "my rn"
      refine Rd.ifD (fun _ => ?_) fun z => absurd rfl z
      walk_at "my rn"
      refine Rd.catQ hxa hxb (by omega) fun L H1 nL s1 hL => ?_
      refine q _ _ _ s1 (SqL.of hL) ?_
      simp only [Stm.kids, stmsD_app]
      exact dps_app (dps_same (Cut.same s1) haa) (dps_same (Cut.same s1) hab)
    | loop nm k e b =>
      obtain ⟨t, xs, rfl, hx, ha⟩ := dpT dv
      obtain ⟨v0, x0, rfl, d0, ha⟩ := dp1 ha
      obtain ⟨v1, x0, rfl, d1, ha⟩ := dp1 ha
      obtain ⟨v2, x0, rfl, d2, ha⟩ := dp1 ha
      obtain ⟨v3, x0, rfl, d3, ha⟩ := dp1 ha
      obtain ⟨v4, x0, rfl, d4, ha⟩ := dp1 ha
      cases dp0 ha
      have hx := Same.seqT Cut.sub hx
      cases dpS d0
      obtain ⟨ta, xa, rfl, hxa, haa⟩ := dpL d4
      have hxa := Cut.sub.seq hxa
      walk_at "my rn"
      refine Rd.ifD (fun z => absurd (V.str.inj z) (by decide +kernel)) fun _ => ?_
      walk_at "my rn"
      refine Rd.ifD (fun _ => ?_) fun z => absurd rfl z
      walk_at "my rn"
      exact q _ _ _ (Same.refl _) hxa haa
    | call p o op as =>
      obtain ⟨t, xs, rfl, hx, ha⟩ := dpT dv
      obtain ⟨v0, x0, rfl, d0, ha⟩ := dp1 ha
      have hx := Same.seqT Cut.sub hx
      cases dpS d0
      walk_at "my rn"
      refine Rd.ixTq hx (Rd.at_val (j := 0) rfl rfl) ?_
      walk_at "my rn"
      refine Rd.ifD (fun z => absurd (V.str.inj z) (by decide +kernel)) fun _ => ?_
      walk_at "my rn"
      refine Rd.ixTq hx (Rd.at_val (j := 0) rfl rfl) ?_
      walk_at "my rn"
      refine Rd.ifD (fun z => absurd (V.str.inj z) (by decide +kernel)) fun _ => ?_
      walk_at "my rn"
      intro L H1 nL s1 hL
      exact q _ _ _ s1 (SqL.of hL) .nil
    | read p t =>
      obtain ⟨t, xs, rfl, hx, ha⟩ := dpT dv
      obtain ⟨v0, x0, rfl, d0, ha⟩ := dp1 ha
      have hx := Same.seqT Cut.sub hx
      cases dpS d0
      walk_at "my rn"
      refine Rd.ixTq hx (Rd.at_val (j := 0) rfl rfl) ?_
      walk_at "my rn"
      refine Rd.ifD (fun z => absurd (V.str.inj z) (by decide +kernel)) fun _ => ?_
      walk_at "my rn"
      refine Rd.ixTq hx (Rd.at_val (j := 0) rfl rfl) ?_
      walk_at "my rn"
      refine Rd.ifD (fun z => absurd (V.str.inj z) (by decide +kernel)) fun _ => ?_
      walk_at "my rn"
      intro L H1 nL s1 hL
      exact q _ _ _ s1 (SqL.of hL) .nil
    | write t e =>
      obtain ⟨t, xs, rfl, hx, ha⟩ := dpT dv
      obtain ⟨v0, x0, rfl, d0, ha⟩ := dp1 ha
      have hx := Same.seqT Cut.sub hx
      cases dpS d0
      walk_at "my rn"
      refine Rd.ixTq hx (Rd.at_val (j := 0) rfl rfl) ?_
      walk_at "my rn"
      refine Rd.ifD (fun z => absurd (V.str.inj z) (by decide +kernel)) fun _ => ?_
      walk_at "my rn"
      refine Rd.ixTq hx (Rd.at_val (j := 0) rfl rfl) ?_
      walk_at "my rn"
      refine Rd.ifD (fun z => absurd (V.str.inj z) (by decide +kernel)) fun _ => ?_
      walk_at "my rn"
      intro L H1 nL s1 hL
      exact q _ _ _ s1 (SqL.of hL) .nil
def sp_statements (K : PySem.W.Frag) : Sp := fun vs H Q _ => ∃ (S : Addr → Prop) (v : V) (b : List Stm), vs = [v] ∧ Live S H ∧ Dp K (Cut S H) v (.list (stmsD b)) ∧ nests b ≤ 7 ∧ (flats b).length ≤ 30000 ∧
  ∀ (L : Addr) (ws : List V) (H' : Hp), Same H H' → H L = none → H' L = some (.lst ws) → DpAll K (Cut S H') ws (stmsD (flats b)) → Q (.ref L) H'
theorem ok_statements (T : Top K mg) : FnOk P w K mg base CX0 21 T.a_statements T.d_statements ["body"]  (sp_statements K) := by
  refine T.F_statements.ok sc_statements (fun vs H Q E h => ?_) (fun cdv A outer s H vs Q E hr h => ?_)
  · obtain ⟨_, _, _, rfl, _⟩ := h
    rfl
  · obtain ⟨S, v, b, rfl, lv, dv, ne, sm, q⟩ := h
    refine ⟨_, (pss_cons (ps_set (i := 1) sc_statements.nd rfl (by first | exact Or.inl rfl | exact Or.inr rfl) (pe_lst pa_nil))
  (pss_cons (ps_set (i := 2) sc_statements.nd rfl (by first | exact Or.inl rfl | exact Or.inr rfl) (pe_revL (pe_call (ok__copied T) (hr.mono (by decide)) (by rfl) T.g__copied T.F__copied.kp T.b__copied .nil pass0 (pa_cons (pv 0) pa_nil))))
  (pss_cons (ps_while PassesOwn.never (pt_truth (pv 2) (by intro _; rfl))
  (pss_cons (ps_set (i := 3) sc_statements.nd rfl (by first | exact Or.inl rfl | exact Or.inr rfl) (pe_bm0 PySem.F.plainAttrs_list PySem.F.slot_list_pop PySem.F.type_list_pop mt_pop (pv 2)))
  (pss_cons (ps_expr (pe_bm PySem.F.plainAttrs_list PySem.F.slot_list_append PySem.F.type_list_append mt_append (pv 1) (pa_cons (pv 3) pa_nil)))
  (pss_one (ps_expr (pe_bm PySem.F.plainAttrs_list PySem.F.slot_list_extend PySem.F.type_list_extend mt_extend (pv 2) (pa_cons (pe_revL (pe_call (ok__inside T) (hr.mono (by decide)) (by rfl) T.g__inside T.F__inside.kp T.b__inside .nil pass0 (pa_cons (pv 3) pa_nil))) pa_nil)))))))
  (pss_one (ps_ret (pv 1)))))), ?_⟩
    rw [show ∀ a0 : V, L2.start ["body", "found", "waiting", "statement"] [a0] = [some a0, none, none, none] from fun _ => rfl]
    walk_at "my rn"
    intro F H1 nF s1 hF
    walk_at "my rn"
    refine ⟨fun a => S a ∨ a = F, v, b, rfl, (lv.same s1).or hF, dp_same (Cut.free s1 nF) dv, ne, by omega, fun L ws H2 s2 nL hL al => ?_⟩
    walk_at "my rn"
    intro W H3 nW s3 hW
    walk_at "my rn"
    have eW : ws.reverse = ws.reverse := rfl
    refine ⟨fun m σ H' => ∃ (fs ws' : List V) (fd wd : List Stm) (y3 : Option V), m = (flats wd).length ∧ σ = [some v, some (.ref F), some (.ref W), y3] ∧ Same H H' ∧ H' F = some (.lst fs) ∧ H' W = some (.lst ws'.reverse) ∧
      DpAll K (Cut (fun a => (S a ∨ a = F) ∨ a = W) H') fs (stmsD fd) ∧ DpAll K (Cut (fun a => (S a ∨ a = F) ∨ a = W) H') ws' (stmsD wd) ∧ fd ++ flats wd = flats b, ⟨_, [], ws, [], b, none, rfl, rfl, (s1.trans s2).trans s3, s3 _ _ (s2 _ _ hF), hW, .nil, ?_, rfl⟩, ?_⟩
    · exact dps_same (Cut.free s3 nW) al
    rintro m σ H' ⟨fs, ws', fd, wd, y3, rfl, rfl, s4, hF4, hW4, a1, a2, ee⟩
    have FW : F ≠ W := fun z => by rw [← z, s2 _ _ hF] at nW; cases nW
    have lw : ws'.length = wd.length := by rw [dps_len a2, stmsD_map, List.length_map]
    have lf : fs.length = fd.length := by rw [dps_len a1, stmsD_map, List.length_map]
    have tot := congrArg List.length ee
    rw [List.length_append] at tot
    have lwd := flats_len wd
    have inS : ∀ (a : Addr) (o : HO) (Hx : Hp), ((S a ∨ a = F) ∨ a = W) → Same (Cut (fun a => (S a ∨ a = F) ∨ a = W) Hx) (Cut (fun a => (S a ∨ a = F) ∨ a = W) (upd Hx a o)) := fun a o Hx h => Cut.upd (S := fun a => (S a ∨ a = F) ∨ a = W) h
    walk_at "my rn"
    cases ws' with
    | nil =>
      refine ⟨false, .inl ⟨[], SqL.of hW4, rfl⟩, Rd.ifF ?_⟩
      have e0 : wd = [] := List.eq_nil_of_length_eq_zero lw.symm
      subst e0
      rw [show flats [] = [] from rfl, List.append_nil] at ee
      subst ee
      walk_at "my rn"
      exact q F fs H' s4 nF hF4 (dps_same (Cut.mono fun a m => .inl (.inl m)) a1)
    | cons v1 ws1 =>
      cases wd with
      | nil => cases lw
      | cons s wd1 =>
        rw [List.reverse_cons] at hW4
        obtain ⟨v1', ws1', e1, dv1, a2⟩ := dp1 a2
        cases e1
        refine ⟨true, .inl ⟨_, SqL.of hW4, by simp⟩, Rd.ifT ⟨fun σ' H' => ∃ (fs ws' : List V) (fd wd' : List Stm) (y3 : Option V), (flats wd').length < (flats (s :: wd1)).length ∧ σ' = [some v, some (.ref F), some (.ref W), y3] ∧ Same H H' ∧ H' F = some (.lst fs) ∧ H' W = some (.lst ws'.reverse) ∧
      DpAll K (Cut (fun a => (S a ∨ a = F) ∨ a = W) H') fs (stmsD fd) ∧ DpAll K (Cut (fun a => (S a ∨ a = F) ∨ a = W) H') ws' (stmsD wd') ∧ fd ++ flats wd' = flats b, fun σ' H' ⟨a, b, c, d, e, f, g⟩ => ⟨_, f, a, b, c, d, e, rfl, g⟩, ?_⟩⟩
        walk_at "my rn"
        refine Rd.popI hW4 (last_at' _ _) ?_
        rw [List.dropLast_concat]
        obtain ⟨H5, e5⟩ : ∃ H5, H5 = upd H' W (.lst ws1.reverse) := ⟨_, rfl⟩
        have hW5 : H5 W = some (.lst ws1.reverse) := by rw [e5]; exact upd_same
        have hF5 : H5 F = some (.lst fs) := by rw [e5, upd_ne FW]; exact hF4
        have c5 := inS W (.lst ws1.reverse) H' (.inr rfl)
        have s5 : Same H H5 := fun a x e => by rw [e5, upd_ne (fun z => by rw [z] at e; rw [((s1.trans s2).free nW)] at e; cases e)]; exact s4 a x e
        rw [← e5] at c5 ⊢
        have kl : s.kids.length + wd1.length ≤ (flats (s :: wd1)).length := by
          rw [flats_cons]
          have := flats_len (s.kids ++ wd1)
          rw [List.length_append] at this
          simp only [List.length_cons]
          omega
        walk_at "my rn"
        refine Rd.app hF5 (Rd.szl (by omega)) ?_
        obtain ⟨H6, e6⟩ : ∃ H6, H6 = upd H5 F (.lst (fs ++ [v1])) := ⟨_, rfl⟩
        have hF6 : H6 F = some (.lst (fs ++ [v1])) := by rw [e6]; exact upd_same
        have hW6 : H6 W = some (.lst ws1.reverse) := by rw [e6, upd_ne FW.symm]; exact hW5
        have c6 := inS F (.lst (fs ++ [v1])) H5 (.inl (.inr rfl))
        have s6 : Same H H6 := fun a x e => by rw [e6, upd_ne (fun z => by rw [z, nF] at e; cases e)]; exact s5 a x e
        rw [← e6] at c6 ⊢
        walk_at "my rn"
        refine ⟨fun a => (S a ∨ a = F) ∨ a = W, v1, s, rfl, ((lv.same s6).or hF6).or hW6, dp_same (c5.trans c6) dv1, by omega, fun L7 ks H7 s7 hL7 ak => ?_⟩
        have lk : ks.length = s.kids.length := by rw [dps_len ak, stmsD_map, List.length_map]
        walk_at "my rn"
        intro R H8 nR s8 hR
        have hW8 := s8 _ _ (s7 _ _ hW6)
        have hF8 := s8 _ _ (s7 _ _ hF6)
        walk_at "my rn"
        refine Rd.ext hW8 hR (by rw [List.length_reverse, List.length_reverse]; simp only [List.length_cons] at lw; omega) ?_
        have cW := inS W (.lst (ws1.reverse ++ ks.reverse)) H8 (.inr rfl)
        have s68 := Cut.same (S := fun a => (S a ∨ a = F) ∨ a = W) (s7.trans s8)
        refine ⟨fs ++ [v1], ks ++ ws1, fd ++ [s], s.kids ++ wd1, _, ?_, rfl, fun a x e => ?_, ?_, ?_, ?_, ?_, ?_⟩
        · rw [flats_cons]; simp
        · rw [upd_ne (fun z => by rw [z] at e; rw [((s1.trans s2).free nW)] at e; cases e)]; exact s8 _ _ (s7 _ _ (s6 a x e))
        · rw [upd_ne FW]; exact hF8
        · rw [upd_same, List.reverse_append]
        · rw [stmsD_app]
          exact dps_app (dps_same (((c5.trans c6).trans s68).trans cW) a1) (.cons (dp_same (((c5.trans c6).trans s68).trans cW) dv1) .nil)
        · rw [stmsD_app]
          exact dps_app (dps_same ((Cut.same s8).trans cW) ak) (dps_same (((c5.trans c6).trans s68).trans cW) a2)
        · rw [← ee, flats_cons, List.append_assoc]; rfl
end

end Mine

set_option Elab.async false
set_option linter.all false
set_option maxRecDepth 100000
set_option maxHeartbeats 1000000

--@@rec _copied _copied_statement

namespace Mine
open PySem PySem.Spec PyProof.Rows L2
local macro_rules | `(tactic| walk_at "my rn") => `(tactic| (repeat (first | with_reducible refine Rd.catQI ?_ | with_reducible refine Rd.revN ?_ | with_reducible refine Rd.lzip ?_ | with_reducible refine Rd.fld ?_ | with_reducible refine Rd.sfld ?_ | with_reducible refine Rd.meth ?_ | with_reducible refine Rd.make ?_ | with_reducible refine Rd.izip ?_ | with_reducible refine Rd.tupN ?_ | with_reducible refine Rd.lstN ?_ | with_reducible refine Rd.cbListOf ?_ | with_reducible refine Rd.cbListOfR ?_ | with_reducible refine Rd.catI ?_ | with_reducible refine Rd.slN ?_ | with_reducible refine Rd.cbSrtI ?_ | with_reducible refine Rd.seq ?_ | with_reducible refine Rd.next ?_ | with_reducible refine Rd.brk ?_ | with_reducible refine Rd.cont ?_ | with_reducible refine Rd.asg ?_ | with_reducible refine Rd.ret ?_ | with_reducible refine Rd.retN ?_ | with_reducible refine Rd.drop ?_ | with_reducible refine Rd.ifs ?_ | with_reducible refine Rd.ife ?_ | with_reducible refine Rd.test ?_ | with_reducible refine Rd.tb_ ?_ | with_reducible refine Rd.bl ?_ | with_reducible refine Rd.bl2 ?_ | with_reducible refine Rd.and_ ?_ | with_reducible refine Rd.or_ ?_ | with_reducible refine Rd.not_ ?_ | with_reducible refine Rd.andV ?_ | with_reducible refine Rd.orV ?_ | with_reducible refine Rd.notV ?_ | with_reducible refine Rd.op ?_ | with_reducible refine Rd.un ?_ | with_reducible refine Rd.I0 ?_ | with_reducible refine Rd.U ?_ | with_reducible refine Rd.ip ?_ | with_reducible refine Rd.c_ ?_ | with_reducible refine Rd.nil ?_ | with_reducible refine Rd.cons ?_ | with_reducible refine Rd.call ?_ | with_reducible refine Rd.cb ?_ | with_reducible refine Rd.bm ?_ | with_reducible refine Rd.bm0 ?_ | with_reducible refine Rd.nopart ?_ | with_reducible refine Rd.part ?_ | with_reducible refine Rd.int1 ?_ | with_reducible refine Rd.ints1 ?_ | with_reducible refine Rd.ints2 ?_ | with_reducible refine Rd.gcons ?_ | with_reducible refine Rd.gnil ?_ | with_reducible refine Rd.sub ?_ | with_reducible refine Rd.isN ?_ | with_reducible refine Rd.chain ?_ | with_reducible refine Rd.rf ?_ | with_reducible refine Rd.tyS ?_ | with_reducible refine Rd.intI ?_ | with_reducible refine Rd.lc ?_ | with_reducible refine Rd.for_ ?_ | with_reducible refine Rd.ilist ?_ | with_reducible refine Rd.itup ?_ | with_reducible refine Rd.irng1 ?_ | with_reducible refine Rd.irng2 ?_ | with_reducible refine Rd.ienum ?_ | with_reducible refine Rd.istr ?_ | with_reducible refine Rd.refA ?_ | with_reducible refine Rd.strA ?_ | with_reducible refine Rd.yes ?_ | with_reducible refine Rd.ifT ?_ | with_reducible refine Rd.ifF ?_ | with_reducible refine Rd.ifnT ?_ | with_reducible refine Rd.ifnF ?_ | with_reducible refine Rd.isi_ii ?_ | with_reducible refine Rd.isi_ib ?_ | with_reducible refine Rd.isi_is ?_ | with_reducible refine Rd.isi_il ?_ | with_reducible refine Rd.isi_it ?_ | with_reducible refine Rd.isi_id ?_ | with_reducible refine Rd.isi_bi ?_ | with_reducible refine Rd.isi_bb ?_ | with_reducible refine Rd.isi_bs ?_ | with_reducible refine Rd.isi_bl ?_ | with_reducible refine Rd.isi_bt ?_ | with_reducible refine Rd.isi_bd ?_ | with_reducible refine Rd.isi_si ?_ | with_reducible refine Rd.isi_sb ?_ | with_reducible refine Rd.isi_ss ?_ | with_reducible refine Rd.isi_sl ?_ | with_reducible refine Rd.isi_st ?_ | with_reducible refine Rd.isi_sd ?_ | with_reducible refine Rd.isi_ni ?_ | with_reducible refine Rd.isi_nb ?_ | with_reducible refine Rd.isi_ns ?_ | with_reducible refine Rd.isi_nl ?_ | with_reducible refine Rd.isi_nt ?_ | with_reducible refine Rd.isi_nd ?_ | with_reducible refine Rd.sl ?_ | with_reducible refine Rd.v0 ?_ | with_reducible refine Rd.v1 ?_ | with_reducible refine Rd.v2 ?_ | with_reducible refine Rd.v3 ?_ | with_reducible refine Rd.v4 ?_ | with_reducible refine Rd.v5 ?_ | with_reducible refine Rd.v6 ?_ | with_reducible refine Rd.v7 ?_ | with_reducible refine Rd.v8 ?_ | with_reducible refine Rd.v9 ?_ | with_reducible refine Rd.v10 ?_ | with_reducible refine Rd.v11 ?_ | with_reducible refine Rd.v12 ?_ | with_reducible refine Rd.v13 ?_ | with_reducible refine Rd.v14 ?_ | with_reducible refine Rd.v15 ?_ | with_reducible refine Rd.v16 ?_ | with_reducible refine Rd.v17 ?_ | with_reducible refine Rd.v18 ?_ | with_reducible refine Rd.v19 ?_ | with_reducible refine Rd.v20 ?_ | with_reducible refine Rd.v21 ?_ | with_reducible refine Rd.v22 ?_ | with_reducible refine Rd.v23 ?_ | with_reducible refine Rd.v24 ?_ | with_reducible refine Rd.v25 ?_ | with_reducible refine Rd.v26 ?_ | with_reducible refine Rd.v27 ?_ | with_reducible refine Rd.n0 ?_ | with_reducible refine Rd.n1 ?_ | with_reducible refine Rd.n2 ?_ | with_reducible refine Rd.n3 ?_ | with_reducible refine Rd.n4 ?_ | with_reducible refine Rd.n5 ?_ | with_reducible refine Rd.n6 ?_ | with_reducible refine Rd.n7 ?_ | with_reducible refine Rd.n8 ?_ | with_reducible refine Rd.n9 ?_ | with_reducible refine Rd.n10 ?_ | with_reducible refine Rd.n11 ?_ | with_reducible refine Rd.n12 ?_ | with_reducible refine Rd.n13 ?_ | with_reducible refine Rd.n14 ?_ | with_reducible refine Rd.n15 ?_ | with_reducible refine Rd.n16 ?_ | with_reducible refine Rd.n17 ?_ | with_reducible refine Rd.n18 ?_ | with_reducible refine Rd.n19 ?_ | with_reducible refine Rd.n20 ?_ | with_reducible refine Rd.n21 ?_ | with_reducible refine Rd.n22 ?_ | with_reducible refine Rd.n23 ?_ | with_reducible refine Rd.n24 ?_ | with_reducible refine Rd.n25 ?_ | with_reducible refine Rd.n26 ?_ | with_reducible refine Rd.n27 ?_ | with_reducible refine Rd.g0 ?_ | with_reducible refine Rd.g1 ?_ | with_reducible refine Rd.g2 ?_ | with_reducible refine Rd.g3 ?_ | with_reducible refine Rd.g4 ?_ | with_reducible refine Rd.g5 ?_ | with_reducible refine Rd.g6 ?_ | with_reducible refine Rd.g7 ?_ | with_reducible refine Rd.g8 ?_ | with_reducible refine Rd.g9 ?_ | with_reducible refine Rd.g10 ?_ | with_reducible refine Rd.g11 ?_ | with_reducible refine Rd.g12 ?_ | with_reducible refine Rd.g13 ?_ | with_reducible refine Rd.g14 ?_ | with_reducible refine Rd.g15 ?_ | with_reducible refine Rd.g16 ?_ | with_reducible refine Rd.g17 ?_ | with_reducible refine Rd.g18 ?_ | with_reducible refine Rd.g19 ?_ | with_reducible refine Rd.g20 ?_ | with_reducible refine Rd.g21 ?_ | with_reducible refine Rd.g22 ?_ | with_reducible refine Rd.g23 ?_ | with_reducible refine Rd.g24 ?_ | with_reducible refine Rd.g25 ?_ | with_reducible refine Rd.g26 ?_ | with_reducible refine Rd.g27 ?_ | ((with_reducible apply Rd.glst); (first | assumption | exact upd_same); exact rfl) | ((with_reducible apply Rd.gtP); assumption; assumption) | ((with_reducible apply Rd.revq); first | assumption | exact SqL.of (by assumption)) | ((with_reducible apply Rd.fldI); (first | assumption | exact upd_same); assumption; assumption; (first | assumption | with_unfolding_all rfl)) | ((with_reducible apply Rd.methI); (first | assumption | exact upd_same); (first | assumption | with_unfolding_all rfl)) | ((with_reducible apply Rd.sfldI); (first | assumption | exact upd_same); assumption; assumption; exact Nat.le_of_ble_eq_true rfl) | ((with_reducible apply Rd.maxL); assumption) | ((with_reducible apply Rd.anyL); assumption) | ((with_reducible apply Rd.sumL); assumption) | ((with_reducible refine Rd.izI (by assumption) (by assumption) ?_)) | ((with_reducible refine Rd.eq ?_ ?_); exact rfl) | ((with_reducible refine Rd.ne ?_ ?_); exact rfl) | ((with_reducible refine Rd.szA ?_ ?_); exact Nat.le_of_ble_eq_true rfl) | ((with_reducible refine Rd.I ?_ ?_); first | assumption | decide | exact Or.inr (by decide +kernel) | exact Or.inl (by decide +kernel) | exact ⟨by decide, by decide⟩ | exact ⟨by decide, by decide, by decide⟩ | omega) | ((with_reducible apply Rd.tyL); first | assumption | exact upd_same) | ((with_reducible apply Rd.tyLq); assumption) | ((with_reducible apply Rd.ixL); (first | assumption | exact upd_same); exact rfl) | ((with_reducible apply Rd.ixT); (first | assumption | exact upd_same); exact rfl) | ((with_reducible apply Rd.ixLq); assumption; exact rfl) | ((with_reducible apply Rd.ixTq); assumption; exact rfl) | ((with_reducible apply Rd.gtup); (first | assumption | exact upd_same); exact rfl) | ((with_reducible apply Rd.gtupq); assumption; exact rfl) | ((with_reducible apply Rd.sqAq); assumption) | ((with_reducible apply Rd.stAq); assumption) | ((with_reducible apply Rd.enAq); assumption) | ((with_reducible apply Rd.lenLq); assumption) | ((with_reducible apply Rd.lenTq); assumption) | ((with_reducible apply Rd.sqA); first | assumption | exact upd_same) | ((with_reducible apply Rd.stA); first | assumption | exact upd_same) | ((with_reducible apply Rd.enA); first | assumption | exact upd_same) | ((with_reducible apply Rd.lenL); first | assumption | exact upd_same) | ((with_reducible apply Rd.lenT); first | assumption | exact upd_same) | ((with_reducible refine Rd.nwT ?_ ?_); exact Nat.le_of_ble_eq_true rfl) | ((with_reducible refine Rd.nwL ?_ ?_); exact Nat.le_of_ble_eq_true rfl) | ((with_reducible apply Rd.listOf); assumption) | ((with_reducible apply Rd.listOfq); assumption) | ((with_reducible apply Rd.slo); assumption) | ((with_reducible apply Rd.slq); assumption) | ((with_reducible apply Rd.srtI); assumption) | ((with_reducible apply Rd.srtIo); assumption) | ((with_reducible refine Rd.isi_li (by assumption) ?_)) | ((with_reducible refine Rd.isi_lb (by assumption) ?_)) | ((with_reducible refine Rd.isi_ls (by assumption) ?_)) | ((with_reducible refine Rd.isi_ll (by assumption) ?_)) | ((with_reducible refine Rd.isi_lt (by assumption) ?_)) | ((with_reducible refine Rd.isi_ld (by assumption) ?_)) | ((with_reducible refine Rd.isi_ti (by assumption) ?_)) | ((with_reducible refine Rd.isi_tb (by assumption) ?_)) | ((with_reducible refine Rd.isi_ts (by assumption) ?_)) | ((with_reducible refine Rd.isi_tl (by assumption) ?_)) | ((with_reducible refine Rd.isi_tt (by assumption) ?_)) | ((with_reducible refine Rd.isi_td (by assumption) ?_)))))
/-! ### programs as data; deadbeat.rules: reached, used -/
structure Op where
  name : Str
  pars : PyData
  locs : PyData
  body : List Stm
  res : PyData
def Op.d (o : Op) : PyData := .tuple [.str "operation", .str o.name, o.pars, o.locs, .list (stmsD o.body), o.res]
structure Ob where
  name : Str
  fields : PyData
  ops : List Op
def Ob.d (o : Ob) : PyData := .tuple [.str "object", .str o.name, o.fields, .list (o.ops.map Op.d)]
structure Task where
  name : Str
  every : PyData
  within : Int
  locs : PyData
  body : List Stm
def Task.d (t : Task) : PyData := .tuple [.str "task", .str t.name, t.every, .int t.within, t.locs, .list (stmsD t.body)]
structure Intr where
  name : Str
  every : PyData
  within : PyData
  obj : Str
  op : PyData
  args : PyData
def Intr.d (t : Intr) : PyData := .tuple [.str "interrupt", .str t.name, t.every, t.within, .str t.obj, t.op, t.args]
structure Pg where
  kind : PyData
  name : PyData
  ports : PyData
  obs : List Ob
  tasks : List Task
  irs : List Intr
def Pg.d (p : Pg) : PyData := .tuple [p.kind, p.name, p.ports, .list (p.obs.map Ob.d), .list (p.tasks.map Task.d), .list (p.irs.map Intr.d)]
def Pg.names (p : Pg) : List Str := p.obs.map Ob.name
def callN : Stm → Option Str
  | .call _ o _ _ => some o
  | _ => none
def callsN (b : List Stm) : List Str := (flats b).filterMap callN
def Ob.calls (o : Ob) : List Str := o.ops.flatMap fun x => callsN x.body
/-- what the calls of an object go to, by the objects' indexes -/
def Pg.E (p : Pg) (k : Nat) : List Nat := (p.obs[k]?.elim [] Ob.calls).map fun nm => (findN p.names nm).toNat
inductive Reach (E : Nat → List Nat) : Nat → Nat → Prop
  | refl (k : Nat) : Reach E k k
  | step {k t j : Nat} : t ∈ E k → Reach E t j → Reach E k j
/-- a row of indexes: ascending, just what is reached -/
def IsRow (E : Nat → List Nat) (k : Nat) (r : List Int) : Prop := r.Pairwise (· < ·) ∧ ∀ x : Int, x ∈ r ↔ ∃ j : Nat, x = j ∧ Reach E k j
structure BodyP (p : Pg) (b : List Stm) : Prop where
  nest : nests b ≤ 7
  size : (flats b).length ≤ 30000
  calls : ∀ nm ∈ callsN b, nm ∈ p.names
structure PgW (p : Pg) : Prop where
  few : p.obs.length ≤ 60 ∧ p.tasks.length ≤ 60 ∧ p.irs.length ≤ 60
  ops : ∀ o ∈ p.obs, o.ops.length ≤ 1000 ∧ ∀ x ∈ o.ops, BodyP p x.body
  later : ∀ k j, j ∈ p.E k → k < j ∧ j < p.obs.length
  near : ∀ k, (p.E k).length * p.obs.length ≤ 60
  body : ∀ t ∈ p.tasks, BodyP p t.body ∧ (callsN t.body).length * p.obs.length ≤ 60
  irs : ∀ t ∈ p.irs, t.obj ∈ p.names
theorem findN_mem {ns : List Str} {x : Str} (h : x ∈ ns) : (findN ns x).toNat < ns.length ∧ findN ns x = ((findN ns x).toNat : Nat) := by
  unfold findN
  rw [if_pos h]
  exact ⟨by rw [Int.toNat_natCast]; exact List.idxOf_lt_length_iff.mpr h, by rw [Int.toNat_natCast]⟩
/-- the rows that calls go to, one behind the other -/
def outI (ns : List Str) (rows : List (List Int)) (xs : List Str) : List Int := xs.flatMap fun nm => rows.getD (findN ns nm).toNat []
theorem outI_len {ns : List Str} {rows : List (List Int)} {n : Nat} (h : ∀ r ∈ rows, r.length ≤ n) : ∀ xs : List Str, (outI ns rows xs).length ≤ xs.length * n
  | [] => by simp [outI]
  | x :: r => by
    have ih := outI_len (ns := ns) h r
    have e : outI ns rows (x :: r) = rows.getD (findN ns x).toNat [] ++ outI ns rows r := rfl
    rw [e, List.length_append, List.length_cons, Nat.succ_mul]
    have : (rows.getD (findN ns x).toNat []).length ≤ n := by
      rw [List.getD_eq_getElem?_getD]
      cases z : rows[(findN ns x).toNat]? with
      | none => exact Nat.zero_le _
      | some y => exact h y (List.mem_of_getElem? z)
    omega
theorem outI_app (ns : List Str) (rows : List (List Int)) (xs ys : List Str) : outI ns rows (xs ++ ys) = outI ns rows xs ++ outI ns rows ys := List.flatMap_append
/-- a list of lists of ints, all new since H0 -/
structure FoundAt (H0 H : Hp) (F : Addr) (ls : List Addr) (rows : List (List Int)) : Prop where
  at_ : H F = some (.lst (ls.map V.ref))
  len : ls.length = rows.length
  row : ∀ (i : Nat) a r, ls[i]? = some a → rows[i]? = some r → H a = some (.lst (r.map V.int))
  nd : ls.Nodup
  new : ∀ a ∈ ls, H0 a = none ∧ a ≠ F
  newF : H0 F = none
theorem FoundAt.same {H0 H H' : Hp} {F : Addr} {ls : List Addr} {rows : List (List Int)} (f : FoundAt H0 H F ls rows) (s : Same H H') : FoundAt H0 H' F ls rows :=
  { f with at_ := s _ _ f.at_, row := fun i a r h1 h2 => s _ _ (f.row i a r h1 h2) }
theorem FoundAt.get {H0 H : Hp} {F : Addr} {ls : List Addr} {rows : List (List Int)} (f : FoundAt H0 H F ls rows) {k : Nat} (h : k < rows.length) : ∃ a r, ls[k]? = some a ∧ rows[k]? = some r ∧ H a = some (.lst (r.map V.int)) := by
  have hk : k < ls.length := by rw [f.len]; exact h
  have h1 : ls[k]? = some ls[k] := List.getElem?_eq_getElem hk
  have h2 : rows[k]? = some rows[k] := List.getElem?_eq_getElem h
  exact ⟨_, _, h1, h2, f.row k _ _ h1 h2⟩
theorem FoundAt.live {H0 H : Hp} {F : Addr} {ls : List Addr} {rows : List (List Int)} (f : FoundAt H0 H F ls rows) {a : Addr} (m : a ∈ ls) : ∃ x, H a = some x := by
  obtain ⟨k, hk⟩ := List.getElem?_of_mem m
  have hl := (List.getElem?_eq_some_iff.mp hk).1
  obtain ⟨a', r, h1, h2, h3⟩ := f.get (k := k) (by rw [← f.len]; exact hl)
  rw [hk] at h1; cases h1
  exact ⟨_, h3⟩
theorem FoundAt.set {H0 H H1 : Hp} {F L : Addr} {ls : List Addr} {rows : List (List Int)} {r : List Int} {k : Nat} (f : FoundAt H0 H F ls rows) (s0 : Same H0 H) (s : Same H H1) (nL : H L = none) (hL : H1 L = some (.lst (r.map V.int))) (hk : k < rows.length) :
    FoundAt H0 (upd H1 F (.lst ((ls.set k L).map V.ref))) F (ls.set k L) (rows.set k r) := by
  have nm : L ∉ ls := fun m => by obtain ⟨x, e⟩ := f.live m; rw [nL] at e; cases e
  have nF : L ≠ F := fun z => by have := f.at_; rw [← z, nL] at this; cases this
  exact {
    at_ := upd_same
    len := by rw [List.length_set, List.length_set]; exact f.len
    row := fun i a r' h1 h2 => by
      rw [List.getElem?_set] at h1 h2
      have hk2 : k < ls.length := by rw [f.len]; exact hk
      by_cases e : k = i
      · rw [if_pos e, if_pos hk2] at h1
        rw [if_pos e, if_pos hk] at h2
        cases h1; cases h2
        rw [upd_ne nF]; exact hL
      · rw [if_neg e] at h1 h2
        rw [upd_ne (f.new a (List.mem_of_getElem? h1)).2]
        exact s _ _ (f.row i a r' h1 h2)
    nd := by
      rw [List.nodup_iff_pairwise_ne] at *
      refine List.pairwise_iff_getElem.mpr fun i j hi hj hij => ?_
      rw [List.length_set] at hi hj
      have base := List.pairwise_iff_getElem.mp (List.nodup_iff_pairwise_ne.mp f.nd) i j hi hj hij
      rw [List.getElem_set, List.getElem_set]
      by_cases e1 : k = i
      · rw [if_pos e1, if_neg (by omega)]
        exact fun z => nm (z ▸ List.getElem_mem hj)
      · rw [if_neg e1]
        by_cases e2 : k = j
        · rw [if_pos e2]
          exact fun z => nm (z ▸ List.getElem_mem hi)
        · rw [if_neg e2]; exact base
    new := fun a m => by
      rcases List.mem_or_eq_of_mem_set m with m | rfl
      · exact f.new a m
      · exact ⟨s0.free nL, nF⟩
    newF := f.newF }
/-- the objects of a program, read -/
theorem named_of {K : PySem.W.Frag} {H : Hp} : ∀ {os : List Ob} {xs : List V}, DpAll K H xs (os.map Ob.d) → NamedR K H xs (os.map Ob.name) := by
  intro os xs ha
  have lx : xs.length = os.length := by rw [dps_len ha, List.length_map]
  refine ⟨by rw [List.length_map, lx], fun i v hv => ?_⟩
  obtain ⟨d, hd, dd⟩ := dp_at' ha hv
  rw [List.getElem?_map] at hd
  cases e : os[i]? with
  | none => rw [e] at hd; cases hd
  | some o =>
    rw [e] at hd; cases hd
    obtain ⟨t, fs, rfl, hf, af⟩ := dpT dd
    obtain ⟨v0, fs, rfl, d0, af⟩ := dp1 af
    obtain ⟨v1, fs, rfl, d1, af⟩ := dp1 af
    exact ⟨t, _, o.name, rfl, hf, by rw [dpS d1]; rfl, by rw [List.getElem?_map, e]; rfl⟩
structure PgAt (K : PySem.W.Frag) (H : Hp) (t O T I : Addr) (os ts is : List V) (p : Pg) : Prop where
  ex : ∃ v0 v1 v2, SqT K H t [v0, v1, v2, .ref O, .ref T, .ref I]
  hO : SqL K H O os
  aO : DpAll K H os (p.obs.map Ob.d)
  hT : SqL K H T ts
  aT : DpAll K H ts (p.tasks.map Task.d)
  hI : SqL K H I is
  aI : DpAll K H is (p.irs.map Intr.d)
theorem pg_at {K : PySem.W.Frag} {H : Hp} {v : V} {p : Pg} (h : Dp K H v p.d) : ∃ t O T I os ts is, v = .ref t ∧ PgAt K H t O T I os ts is p := by
  obtain ⟨t, xs, rfl, hx, ha⟩ := dpT h
  obtain ⟨v0, x0, rfl, d0, ha⟩ := dp1 ha
  obtain ⟨v1, x0, rfl, d1, ha⟩ := dp1 ha
  obtain ⟨v2, x0, rfl, d2, ha⟩ := dp1 ha
  obtain ⟨v3, x0, rfl, d3, ha⟩ := dp1 ha
  obtain ⟨v4, x0, rfl, d4, ha⟩ := dp1 ha
  obtain ⟨v5, x0, rfl, d5, ha⟩ := dp1 ha
  cases dp0 ha
  obtain ⟨O, os, rfl, h3, a3⟩ := dpL d3
  obtain ⟨T, ts, rfl, h4, a4⟩ := dpL d4
  obtain ⟨I, is, rfl, h5, a5⟩ := dpL d5
  exact ⟨t, O, T, I, os, ts, is, rfl, ⟨v0, v1, v2, hx⟩, h3, a3, h4, a4, h5, a5⟩
theorem PgAt.same {K : PySem.W.Frag} {H H' : Hp} {t O T I : Addr} {os ts is : List V} {p : Pg} (h : PgAt K H t O T I os ts is p) (s : Same H H') : PgAt K H' t O T I os ts is p := by
  obtain ⟨⟨v0, v1, v2, e⟩, h1, h2, h3, h4, h5, h6⟩ := h
  exact ⟨⟨v0, v1, v2, s.seqT e⟩, s.seq h1, dps_same s h2, s.seq h3, dps_same s h4, s.seq h5, dps_same s h6⟩
theorem PgAt.lenO {K : PySem.W.Frag} {H : Hp} {t O T I : Addr} {os ts is : List V} {p : Pg} (h : PgAt K H t O T I os ts is p) : os.length = p.obs.length := by rw [dps_len h.aO, List.length_map]
def Stm.kind : Stm → Str
  | .set _ _ => "set"
  | .ifs _ _ _ => "if"
  | .loop _ _ _ _ => "loop"
  | .call _ _ _ _ => "call"
  | .read _ _ => "read"
  | .write _ _ => "write"
theorem d_kind (s : Stm) : ∃ a r, s.d = .tuple (.str s.kind :: a :: r) := by
  cases s <;> exact ⟨_, _, rfl⟩
theorem kind_call {s : Stm} (h : s.kind = ("call" : Str)) : ∃ p o op as, s = .call p o op as := by
  cases s with
  | call p o op as => exact ⟨p, o, op, as, rfl⟩
  | _ => exact absurd h (by simp only [Stm.kind]; decide +kernel)
theorem kind_other {s : Stm} (h : s.kind ≠ ("call" : Str)) : callN s = none := by
  cases s with
  | call p o op as => exact absurd rfl h
  | _ => rfl
section
variable {P : Program} {w : World} {K : PySem.W.Frag} {mg : Str → Option Value} {base : Heap}
def sp__reached_by (K : PySem.W.Frag) : Sp := fun vs H Q _ => ∃ (t O T I : Addr) (os ts is : List V) (p : Pg) (v : V) (b : List Stm) (H0 : Hp) (F : Addr) (ls : List Addr) (rows : List (List Int)), vs = [.ref t, v, .ref F] ∧ PgAt K H t O T I os ts is p ∧ p.obs.length ≤ 60 ∧ Dp K H v (.list (stmsD b)) ∧ BodyP p b ∧
  FoundAt H0 H F ls rows ∧ rows.length = p.obs.length ∧ (∀ r ∈ rows, r.length ≤ p.obs.length) ∧ (callsN b).length ≤ 100 ∧
  ∀ (L : Addr) (H' : Hp), Same H H' → H L = none → H' L = some (.lst ((outI p.names rows (callsN b)).map V.int)) → Q (.ref L) H'
theorem ok__reached_by (T : Top K mg) : FnOk P w K mg base CX0 22 T.a__reached_by T.d__reached_by ["program", "body", "found"]  (sp__reached_by K) := by
  refine T.F__reached_by.ok sc__reached_by (fun vs H Q E h => ?_) (fun cdv A outer s H vs Q E hr h => ?_)
  · obtain ⟨_, _, _, _, _, _, _, _, _, _, _, _, _, _, rfl, _⟩ := h
    rfl
  · obtain ⟨t, O, Ta, I, os, ts, is, p, v, b, H0, F, ls, rows, rfl, pa, few, dv, bp, fa, lr, sr, fc, q⟩ := h
    refine ⟨_, (pss_cons (ps_set (i := 3) sc__reached_by.nd rfl (by first | exact Or.inl rfl | exact Or.inr rfl) (pe_lst pa_nil))
  (pss_cons (ps_for PassesOwn.never rfl (pi_list (pe_call (ok_statements T) (hr.mono (by decide)) (by rfl) T.g_statements T.F_statements.kp T.b_statements .nil pass0 (pa_cons (pv 1) pa_nil))) (pg_name (i := 4) sc__reached_by.nd rfl (by first | exact Or.inl rfl | exact Or.inr rfl))
  (pss_one (ps_if (pt_cmpR op_eq (pe_ix ix_tup (pv 4) pe_int (fun _ _ => rfl)) pe_str (nomark _))
  (pss_one (ps_expr (pe_bm PySem.F.plainAttrs_list PySem.F.slot_list_extend PySem.F.type_list_extend mt_extend (pv 3) (pa_cons (pe_ix ix_list (pv 2) (pe_call (ok_find T) (hr.mono (by decide)) (by rfl) T.g_find T.F_find.kp T.b_find .nil pass0 (pa_cons (pe_ix ix_tup (pv 0) pe_int (fun _ _ => rfl)) (pa_cons (pe_ix ix_tup (pv 4) pe_int (fun _ _ => rfl)) pa_nil))) (fun _ _ => rfl)) pa_nil))))
  pss_nil)))
  (pss_one (ps_ret (pv 3))))), ?_⟩
    have bnd : ∀ i, (outI p.names rows (((flats b).take i).filterMap callN)).length ≤ 6000 := fun i => by
      have h1 := outI_len (ns := p.names) sr (((flats b).take i).filterMap callN)
      have h2 : (((flats b).take i).filterMap callN).length ≤ (callsN b).length := by
        unfold callsN
        exact ((List.take_sublist i (flats b)).filterMap callN).length_le
      have := Nat.mul_le_mul h2 (Nat.le_refl p.obs.length)
      have := Nat.mul_le_mul fc few
      omega
    rw [show ∀ a0 a1 a2 : V, L2.start ["program", "body", "found", "indexes", "statement"] [a0, a1, a2] = [some a0, some a1, some a2, none, none] from fun _ _ _ => rfl]
    walk_at "my rn"
    intro L H1 nL s1 hL
    walk_at "my rn"
    refine ⟨fun a => a = L, v, b, rfl, fun a m => by rw [m]; exact ⟨_, hL⟩, dp_same (fun a x e => Cut.at (fun z => by rw [z, nL] at e; cases e) (s1 a x e)) dv, bp.nest, bp.size, fun L2 ws H2 s2 nL2 hL2 al => ?_⟩
    have lw : ws.length = (flats b).length := by rw [dps_len al, stmsD_map, List.length_map]
    have ne2 : L2 ≠ L := fun z => by rw [z, hL] at nL2; cases nL2
    walk_at "my rn"
    refine for_it (walk_list (xs := ws)) (fun i σ H' => ∃ y4, σ = [some (.ref t), some v, some (.ref F), some (.ref L), y4] ∧ Rd.But L H2 H' ∧ H' L = some (.lst ((outI p.names rows (((flats b).take i).filterMap callN)).map V.int))) ⟨none, rfl, Rd.But.refl, s2 _ _ hL⟩ (fun i σ H' _ ⟨_, _, b, _⟩ => SqL.of (b _ _ ne2 hL2)) ?_ ?_
    · rintro i x σ H3' H3 hi ⟨y4, rfl, bt, hL3⟩ ⟨rfl, hx⟩
      obtain ⟨d, hd, dd⟩ := dp_at' al hx
      obtain ⟨s, hs, rfl⟩ : ∃ s, (flats b)[i]? = some s ∧ s.d = d := by
        rw [stmsD_map, List.getElem?_map] at hd
        cases z : (flats b)[i]? with
        | none => rw [z] at hd; cases hd
        | some s => rw [z] at hd; exact ⟨s, rfl, Option.some.inj hd⟩
      have tk : ((flats b).take (i + 1)).filterMap callN = ((flats b).take i).filterMap callN ++ [s].filterMap callN := by
        rw [List.take_add_one, hs, List.filterMap_append]; rfl
      have kp : Same (Cut (fun a => a = L) H2) H3 := fun a x e => by
        obtain ⟨n, e⟩ := Cut.get e
        exact bt a x n e
      have s23 : Same H H3 := fun a x e => bt a x (fun z => by rw [z, nL] at e; cases e) (s2 _ _ (s1 _ _ e))
      obtain ⟨a0, r0, ed⟩ := d_kind s
      rw [ed] at dd
      obtain ⟨tt, xs, rfl, hxs, axs⟩ := dpT dd
      have hxs := kp.seqT hxs
      obtain ⟨v0, x0, rfl, d0, ax1⟩ := dp1 axs
      cases dpS d0
      walk_at "my rn"
      refine Rd.ixTq hxs (Rd.at_val (j := 0) rfl rfl) ?_
      walk_at "my rn"
      refine Rd.ifD (fun e => ?_) (fun e => ?_)
      · obtain ⟨pp, o, op, as, rfl⟩ := kind_call (V.str.inj e)
        cases ed
        obtain ⟨v1, x1, rfl, d1, ax2⟩ := dp1 ax1
        obtain ⟨v2, x2, rfl, d2, ax3⟩ := dp1 ax2
        cases dpS d2
        obtain ⟨w0, w1, w2, ht⟩ := (pa.same s23).ex
        have hO := (pa.same s23).hO
        have mo : o ∈ p.names := bp.calls o (List.mem_filterMap.mpr ⟨_, List.mem_of_getElem? hs, rfl⟩)
        obtain ⟨m1, m2⟩ := findN_mem mo
        have m3 : (findN p.names o).toNat < rows.length := by rw [lr]; unfold Pg.names at m1; rwa [List.length_map] at m1
        walk_at "my rn"
        refine Rd.ixTq hxs (Rd.at_val (j := 2) rfl rfl) ?_
        walk_at "my rn"
        refine ⟨O, os, p.names, o, rfl, hO, named_of (pa.same s23).aO, by rw [pa.lenO]; omega, fun H4 s4 => ?_⟩
        obtain ⟨a, r, g1, g2, g3⟩ := ((fa.same s23).same s4).get m3
        have hF3 := ((fa.same s23).same s4).at_
        refine Rd.ixL hF3 (Rd.at_val (j := (findN p.names o).toNat) m2 (by rw [List.getElem?_map, g1]; rfl)) ?_
        have hL4 := s4 _ _ hL3
        have lr2 := sr r (List.mem_of_getElem? g2)
        have ex : outI p.names rows [o] = r := by
          show rows.getD (findN p.names o).toNat [] ++ [] = r
          rw [List.append_nil, List.getD_eq_getElem?_getD, g2]; rfl
        have b1 := bnd i
        walk_at "my rn"
        refine Rd.ext hL4 g3 (by rw [List.length_map, List.length_map]; omega) ?_
        refine ⟨_, rfl, (bt.trans (Rd.But.same s4)).trans Rd.But.at_, ?_⟩
        rw [upd_same, tk, outI_app, show [Stm.call pp o op as].filterMap callN = [o] from rfl, ex, List.map_append]
      · have cn := kind_other (fun z => e (by rw [z]))
        walk_at "my rn"
        refine ⟨_, rfl, bt, ?_⟩
        rw [tk, List.filterMap_cons_none cn]
        simpa using hL3
    · rintro σ H3 ⟨y4, rfl, bt, hL3⟩
      rw [lw, List.take_length] at hL3
      walk_at "my rn"
      exact q L H3 (fun a x e => bt a x (fun z => by rw [z, nL] at e; cases e) (s2 _ _ (s1 _ _ e))) nL hL3
theorem rd_set {a : Addr} {ns : List Int} {H : Hp} {Q : VK} (h : SqL K H a (ns.map V.int)) (b : ns.length ≤ 4000) (q : ∀ (p : Addr) (c : Nat) H', c ≤ ns.length → H p = none → Same H H' → H' p = some (SetO w p (fun j => decide (j ∈ ns)) c) → Q (.ref p) H') : rSetI K w [.ref a] H Q :=
  ⟨a, ns, rfl, h, by unfold scanBound; omega, fun p c hc np => q p c _ hc np (same_new np) upd_same⟩
theorem rd_sorted {a : Addr} {S : Int → Bool} {n : Nat} {H : Hp} {Q : VK} (h : H a = some (SetO w a S n)) (b : n < 64) (q : ∀ (ns : List Int) (p : Addr) H', ns.Pairwise (· < ·) → (∀ k : Int, k ∈ ns ↔ S k = true) → ns.length = n → H p = none → Same H H' → H' p = some (.lst (ns.map V.int)) → Q (.ref p) H') : rSortedSet w [.ref a] H Q :=
  ⟨a, S, n, rfl, h, b, fun ns p h1 h2 h3 np => q ns p _ h1 h2 h3 np (same_new np) upd_same⟩
theorem strict_len : ∀ (l : List Int) (a n : Int), l.Pairwise (· < ·) → (∀ x ∈ l, a ≤ x ∧ x < n) → a ≤ n → (l.length : Int) ≤ n - a
  | [], a, n, _, _, h => by simp; omega
  | x :: r, a, n, p, h, hn => by
    rw [List.pairwise_cons] at p
    have h1 := h x List.mem_cons_self
    have := strict_len r (x + 1) n p.2 (fun y m => ⟨by have := p.1 y m; omega, (h y (List.mem_cons_of_mem _ m)).2⟩) (by omega)
    rw [List.length_cons]
    omega
theorem reach_lt {p : Pg} (pw : PgW p) {k j : Nat} (h : Reach p.E k j) : k < p.obs.length → j < p.obs.length := by
  induction h with
  | refl k => exact id
  | step m _ ih => exact fun _ => ih (pw.later _ _ m).2
theorem row_new {p : Pg} (pw : PgW p) {k : Nat} {ob : Ob} {rows : List (List Int)} {r : List Int} (hob : p.obs[k]? = some ob) (lr : rows.length = p.obs.length) (ir : ∀ j r, rows[j]? = some r → k < j → IsRow p.E j r) (hp : r.Pairwise (· < ·))
    (hm : ∀ x : Int, x ∈ r ↔ x ∈ (k : Int) :: outI p.names rows ob.calls) : IsRow p.E k r := by
  refine ⟨hp, fun x => ?_⟩
  have eE : p.E k = ob.calls.map fun nm => (findN p.names nm).toNat := by unfold Pg.E; rw [hob]; rfl
  rw [hm, List.mem_cons]
  constructor
  · rintro (h | h)
    · exact ⟨k, h, .refl k⟩
    · unfold outI at h
      obtain ⟨nm, m1, m2⟩ := List.mem_flatMap.mp h
      have mj : (findN p.names nm).toNat ∈ p.E k := by rw [eE]; exact List.mem_map.mpr ⟨nm, m1, rfl⟩
      obtain ⟨g1, g2⟩ := pw.later _ _ mj
      have e : rows[(findN p.names nm).toNat]? = some rows[(findN p.names nm).toNat] := List.getElem?_eq_getElem (by rw [lr]; exact g2)
      rw [List.getD_eq_getElem?_getD, e] at m2
      obtain ⟨j, e1, e2⟩ := ((ir _ _ e g1).2 x).mp m2
      exact ⟨j, e1, .step mj e2⟩
  · rintro ⟨j, e1, e2⟩
    cases e2 with
    | refl => exact .inl e1
    | step m h =>
      rename_i t
      have m0 := m
      rw [eE] at m
      obtain ⟨nm, m1, m2⟩ := List.mem_map.mp m
      obtain ⟨g1, g2⟩ := pw.later _ _ m0
      have e : rows[t]? = some rows[t] := List.getElem?_eq_getElem (by rw [lr]; exact g2)
      refine .inr (List.mem_flatMap.mpr ⟨nm, m1, ?_⟩)
      show x ∈ rows.getD (findN p.names nm).toNat []
      rw [m2, List.getD_eq_getElem?_getD, e]
      exact ((ir _ _ e g1).2 x).mpr ⟨j, e1, h⟩
def sp_reached (K : PySem.W.Frag) : Sp := fun vs H Q _ => ∃ (t O T I : Addr) (os ts is : List V) (p : Pg), vs = [.ref t] ∧ PgAt K H t O T I os ts is p ∧ PgW p ∧
  ∀ (F : Addr) (ls : List Addr) (rows : List (List Int)) (H' : Hp), Same H H' → FoundAt H H' F ls rows → rows.length = p.obs.length → (∀ k r, rows[k]? = some r → IsRow p.E k r) → Q (.ref F) H'
theorem ok_reached (T : Top K mg) : FnOk P w K mg base CX0 23 T.a_reached T.d_reached ["program"]  (sp_reached K) := by
  refine T.F_reached.ok sc_reached (fun vs H Q E h => ?_) (fun cdv A outer s H vs Q E hr h => ?_)
  · obtain ⟨_, _, _, _, _, _, _, _, rfl, _⟩ := h
    rfl
  · obtain ⟨t, O, Ta, I, os, ts, is, p, rfl, pa, pw, q⟩ := h
    refine ⟨_, (pss_cons (ps_set (i := 1) sc_reached.nd rfl (by first | exact Or.inl rfl | exact Or.inr rfl) (pe_ix ix_tup (pv 0) pe_int (fun _ _ => rfl)))
  (pss_cons (ps_setLc (i := 2) (own := [("_", 3)]) (g := gName 3) (tt := tYes) rfl sc_reached.nd rfl rfl (sw_true rfl rfl rfl (by decide +kernel)) (pi_list (pv 1)) (blkOk_by (N := ["program", "objects", "found", "_", "at", "near", "operation"]) (sc := defScope s_reached) (by decide +kernel)) (fun _ _ _ _ _ => pg_name (i := 3) sc_reached.nd rfl (Or.inl rfl)) (fun _ _ _ _ _ => pts_nil) (fun _ _ _ _ _ => (pe_lst pa_nil)))
  (pss_cons (ps_for PassesOwn.never rfl (pi_revR (by rfl) T.m_reversed (prg_1 (by rfl) T.m_range (pe_callB call_len_seq (by rfl) T.m_len PySem.boot_len (pa_cons (pv 1) pa_nil)) rfl)) (pg_name (i := 4) sc_reached.nd rfl (by first | exact Or.inl rfl | exact Or.inr rfl))
  (pss_cons (ps_set (i := 5) sc_reached.nd rfl (by first | exact Or.inl rfl | exact Or.inr rfl) (pe_lst (pa_cons (pv 4) pa_nil)))
  (pss_cons (ps_for PassesOwn.never rfl (pi_list (pe_ix ix_tup (pe_ix ix_list (pv 1) (pv 4) (fun _ _ => rfl)) pe_int (fun _ _ => rfl))) (pg_name (i := 6) sc_reached.nd rfl (by first | exact Or.inl rfl | exact Or.inr rfl))
  (pss_one (ps_expr (pe_bm PySem.F.plainAttrs_list PySem.F.slot_list_extend PySem.F.type_list_extend mt_extend (pv 5) (pa_cons (pe_call (ok__reached_by T) (hr.mono (by decide)) (by rfl) T.g__reached_by T.F__reached_by.kp T.b__reached_by .nil pass0 (pa_cons (pv 0) (pa_cons (pe_ix ix_tup (pv 6) pe_int (fun _ _ => rfl)) (pa_cons (pv 2) pa_nil)))) pa_nil)))))
  (pss_one (ps_asg (pe_callB (cr_sortedSet rfl) (by rfl) T.m_sorted (by decide +kernel) (pa_cons (pe_callTy (cr_setI rfl) (by rfl) T.m_set (by decide +kernel) (pa_cons (pv 5) pa_nil)) pa_nil)) (pg_sub (pv 2) (pv 4) set_list))))))
  (pss_one (ps_ret (pv 2)))))), ?_⟩
    obtain ⟨w0, w1, w2, ht⟩ := pa.ex
    have hO := pa.hO
    have lO := pa.lenO
    obtain ⟨f1, f2, f3⟩ := pw.few
    rw [show ∀ a0 : V, L2.start ["program", "objects", "found", "_", "at", "near", "operation"] [a0] = [some a0, none, none, none, none, none, none] from fun _ => rfl]
    walk_at "my rn"
    intro D nD
    refine lc_it (walk_list (xs := os)) (fun i H' => ∃ ls : List Addr, H' D = some (.lst (ls.map V.ref)) ∧ ls.length = i ∧ ls.Nodup ∧ (∀ a ∈ ls, H a = none ∧ a ≠ D ∧ H' a = some (.lst [])) ∧ Rd.But D H H')
      ⟨[], upd_same, rfl, .nil, by simp, Rd.But.at_⟩ (fun i H' _ ⟨_, _, _, _, _, b⟩ => (b.to nD).seq hO) (fun i x H1' H1 hi ⟨ls, hD, ll, nd, new, bt⟩ ⟨e1, hx⟩ => ?_) (fun H1 ⟨ls, hD, ll, nd, new, bt⟩ => ?_)
    · cases e1
      simp only [List.map_cons, List.map_nil, L2.wipe, List.set_cons_succ, List.set_cons_zero]
      walk_at "my rn"
      refine ⟨rfl, ?_⟩
      walk_at "my rn"
      intro L H2 nL s2 hL
      have hD2 := s2 _ _ hD
      refine ⟨_, hD2, Rd.szl (by rw [List.length_map]; omega), ls ++ [L], by rw [upd_same, List.map_append]; rfl, by simp [ll], ?_, ?_, (bt.trans (Rd.But.same s2)).trans Rd.But.at_⟩
      · refine List.nodup_append.mpr ⟨nd, by simp, fun a m b m2 z => ?_⟩
        rw [List.mem_singleton] at m2
        have := (new a m).2.2
        rw [z, m2, nL] at this; cases this
      · intro a m
        rcases List.mem_append.mp m with m | m
        · obtain ⟨n1, n2, n3⟩ := new a m
          exact ⟨n1, n2, by rw [upd_ne n2]; exact s2 _ _ n3⟩
        · rw [List.mem_singleton] at m
          subst m
          have nLD : a ≠ D := fun z => by rw [z, hD] at nL; cases nL
          exact ⟨bt.to nD |>.free nL, nLD, by rw [upd_ne nLD]; exact hL⟩
    · have s1 := bt.to nD
      have fa0 : FoundAt H H1 D ls (List.replicate p.obs.length []) := ⟨hD, by rw [ll, lO, List.length_replicate], (fun i a r h1 h2 => by
        rw [List.getElem?_replicate] at h2
        split at h2
        · cases h2; exact (new a (List.mem_of_getElem? h1)).2.2
        · cases h2), nd, fun a m => ⟨(new a m).1, (new a m).2.1⟩, nD⟩
      walk_at "my rn"
      refine Rd.revR1 (Rd.cb (Rd.cons (Rd.v1 (Rd.nil (Rd.lenLq (s1.seq hO) ⟨_, rfl, by decide, by decide, by omega, by omega, ?_⟩)))))
      rw [show ((os.length : Int) - 0).toNat = p.obs.length from by omega]
      refine for_it walk_rangeC (fun i σ H' => ∃ (ls : List Addr) (rows : List (List Int)) (y3 y4 y5 y6 : Option V), σ = [some (.ref t), some (.ref O), some (.ref D), y3, y4, y5, y6] ∧ Same H H' ∧ FoundAt H H' D ls rows ∧ rows.length = p.obs.length ∧ (∀ r ∈ rows, r.length ≤ p.obs.length) ∧
        ∀ k r, rows[k]? = some r → p.obs.length ≤ k + i → IsRow p.E k r) ⟨ls, _, none, none, none, none, rfl, s1, fa0, List.length_replicate, ?_, ?_⟩ (fun _ _ _ _ _ => trivial) ?_ ?_
      · intro r m; rw [(List.mem_replicate.mp m).2]; exact Nat.zero_le _
      · intro k r h hk
        have := (List.getElem?_eq_some_iff.mp h).1
        rw [List.length_replicate] at this
        omega
      · rintro i x σ H2 H2' hi ⟨ls, rows, y3, y4, y5, y6, rfl, s2, fa, lr, sr, ir⟩ ⟨e1, e2⟩
        cases e1
        obtain ⟨k, hk, ek⟩ : ∃ k : Nat, k + i + 1 = p.obs.length ∧ (0 + (p.obs.length : Int) - 1 + (i : Int) * -1) = (k : Int) := ⟨p.obs.length - 1 - i, by omega, by omega⟩
        have e3 : x = V.int (k : Int) := e2.trans (congrArg V.int ek)
        subst e3
        have hkl : k < p.obs.length := by omega
        obtain ⟨ob, hob⟩ : ∃ ob, p.obs[k]? = some ob := ⟨_, List.getElem?_eq_getElem hkl⟩
        have mob := List.mem_of_getElem? hob
        have aO2 := (pa.same s2).aO
        have hO2 := s2.seq hO
        obtain ⟨vk, hvk, dk⟩ := dp_at (i := k) aO2 (by rw [List.getElem?_map, hob]; rfl)
        obtain ⟨tk, fs, rfl, hf, af⟩ := dpT dk
        obtain ⟨v0, g0, rfl, d0, af⟩ := dp1 af
        obtain ⟨v1, g0, rfl, d1, af⟩ := dp1 af
        obtain ⟨v2, g0, rfl, d2, af⟩ := dp1 af
        obtain ⟨v3, g0, rfl, d3, af⟩ := dp1 af
        cases dp0 af
        obtain ⟨Po, ps, rfl, hps, aps⟩ := dpL d3
        have lps : ps.length = ob.ops.length := by rw [dps_len aps, List.length_map]
        have eE : p.E k = ob.calls.map fun nm => (findN p.names nm).toNat := by unfold Pg.E; rw [hob]; rfl
        have lcE : ob.calls.length = (p.E k).length := by rw [eE, List.length_map]
        have nb : ob.calls.length ≤ 60 := by
          have := pw.near k
          rw [lcE]
          have : (p.E k).length * 1 ≤ (p.E k).length * p.obs.length := Nat.mul_le_mul (Nat.le_refl _) (by omega)
          omega
        have part : ∀ j, ((ob.ops.take j).flatMap fun o => callsN o.body).length ≤ ob.calls.length := fun j => by
          unfold Ob.calls
          conv => rhs; rw [← List.take_append_drop j ob.ops, List.flatMap_append, List.length_append]
          exact Nat.le_add_right _ _
        have bnd : ∀ j, (outI p.names rows ((ob.ops.take j).flatMap fun o => callsN o.body)).length ≤ 60 := fun j => by
          have h1 := outI_len (ns := p.names) sr ((ob.ops.take j).flatMap fun o => callsN o.body)
          have h2 := Nat.mul_le_mul (part j) (Nat.le_refl p.obs.length)
          rw [lcE] at h2
          have := pw.near k
          omega
        walk_at "my rn"
        intro N H3 nN s3 hN
        have hO3 := s3.seq hO2
        have hf3 := s3.seqT hf
        walk_at "my rn"
        refine Rd.ixLq hO3 (Rd.at_val (j := k) rfl hvk) ?_
        walk_at "my rn"
        have hps3 := s3.seq hps
        walk_at "my rn"
        have sN : ∀ {Hx : Hp}, Rd.But N H3 Hx → Same H2 Hx := fun b a x e => b a x (fun z => by rw [z, nN] at e; cases e) (s3 a x e)
        refine for_it (walk_list (xs := ps)) (fun j σ H' => ∃ y6, σ = [some (.ref t), some (.ref O), some (.ref D), y3, some (.int (k : Int)), some (.ref N), y6] ∧ Rd.But N H3 H' ∧ H' N = some (.lst (((k : Int) :: outI p.names rows ((ob.ops.take j).flatMap fun o => callsN o.body)).map V.int))) ⟨_, rfl, Rd.But.refl, hN⟩ (fun j σ H' _ ⟨_, _, b, _⟩ => (sN b).seq hps) ?_ ?_
        · rintro j x σ H5' H5 hj ⟨y6, rfl, b5, hN5⟩ ⟨rfl, hx⟩
          have s25 := sN b5
          obtain ⟨d, hd, dd⟩ := dp_at' (dps_same s25 aps) hx
          obtain ⟨o, ho, rfl⟩ : ∃ o, ob.ops[j]? = some o ∧ o.d = d := by
            rw [List.getElem?_map] at hd
            cases z : ob.ops[j]? with
            | none => rw [z] at hd; cases hd
            | some s => rw [z] at hd; exact ⟨s, rfl, Option.some.inj hd⟩
          have mo := List.mem_of_getElem? ho
          obtain ⟨t5, xs, rfl, hx5, a5⟩ := dpT dd
          obtain ⟨u0, g0, rfl, _, a6⟩ := dp1 a5
          obtain ⟨u1, g0, rfl, _, a7⟩ := dp1 a6
          obtain ⟨u2, g0, rfl, _, a8⟩ := dp1 a7
          obtain ⟨u3, g0, rfl, _, a9⟩ := dp1 a8
          obtain ⟨u4, g0, rfl, d4, a10⟩ := dp1 a9
          obtain ⟨u5, g0, rfl, _, a11⟩ := dp1 a10
          cases dp0 a11
          have tk2 : (ob.ops.take (j + 1)).flatMap (fun o => callsN o.body) = (ob.ops.take j).flatMap (fun o => callsN o.body) ++ callsN o.body := by
            rw [List.take_add_one, ho, List.flatMap_append]; simp
          have lc := part (j + 1)
          rw [tk2, List.length_append] at lc
          have b1 := bnd (j + 1)
          rw [tk2, outI_app, List.length_append] at b1
          walk_at "my rn"
          refine ⟨t, O, Ta, I, os, ts, is, p, u4, o.body, H, D, ls, rows, rfl, pa.same (s2.trans s25), f1, d4, (pw.ops ob mob).2 o mo, fa.same s25, lr, sr, by omega, fun L H6 s6 nL hL => ?_⟩
          have hN6 := s6 _ _ hN5
          walk_at "my rn"
          refine Rd.ext hN6 hL (by rw [List.length_map, List.length_map, List.length_cons]; omega) ?_
          refine ⟨_, rfl, (b5.trans (Rd.But.same s6)).trans Rd.But.at_, ?_⟩
          rw [upd_same, tk2, outI_app, ← List.map_append]; rfl
        · rintro σ H4 ⟨y6, rfl, b4, hN4⟩
          have fin : (ob.ops.take ps.length).flatMap (fun o => callsN o.body) = ob.calls := by rw [lps, List.take_length]; rfl
          have b1 := bnd ps.length
          rw [fin] at hN4 b1
          have s24 := sN b4
          walk_at "my rn"
          refine rd_set (SqL.of hN4) (by rw [List.length_cons]; omega) fun q1 c1 H5 hc1 nq1 s5 hq1 => ?_
          rw [List.length_cons] at hc1
          walk_at "my rn"
          refine rd_sorted hq1 (by omega) fun zs z H6 pz mz lz nz s6 hz => ?_
          have hD4 := (fa.same s24).at_
          have hD6 := s6 _ _ (s5 _ _ hD4)
          walk_at "my rn"
          refine Rd.setL hD6 (j := k) (by unfold ixN; rw [if_pos (by omega), if_pos (by rw [List.length_map, fa.len, lr]; omega)]; simp) ?_
          have fs := fa.set (H1 := H6) (L := z) (r := zs) (k := k) s2 ((s24.trans s5).trans s6) ((s24.trans s5).free nz) hz (by rw [lr]; exact hkl)
          rw [List.map_set] at fs
          have isr : IsRow p.E k zs := row_new pw hob lr (fun j r h1 h2 => ir j r h1 (by omega)) pz fun x => by
            rw [mz]; exact decide_eq_true_iff
          have szs : zs.length ≤ p.obs.length := by
            have := strict_len zs 0 p.obs.length pz (fun x m => by
              obtain ⟨j, e1, e2⟩ := (isr.2 x).mp m
              have := reach_lt pw e2 hkl
              omega) (by omega)
            omega
          refine ⟨ls.set k z, rows.set k zs, _, _, _, _, rfl, fun a x e => ?_, fs, by rw [List.length_set]; exact lr, fun r m => ?_, fun j r h1 h2 => ?_⟩
          · rw [upd_ne (fun y => by rw [y, nD] at e; cases e)]
            exact s6 _ _ (s5 _ _ (s24 _ _ (s2 _ _ e)))
          · rcases List.mem_or_eq_of_mem_set m with m | rfl
            · exact sr r m
            · exact szs
          · rw [List.getElem?_set] at h1
            by_cases e : k = j
            · rw [if_pos e, if_pos (by rw [lr]; exact hkl)] at h1
              cases h1
              subst e
              exact isr
            · rw [if_neg e] at h1
              exact ir j r h1 (by omega)
      · rintro σ H2 ⟨ls, rows, y3, y4, y5, y6, rfl, s2, fa, lr, sr, ir⟩
        walk_at "my rn"
        exact q D ls rows H2 s2 fa lr fun k r h => ir k r h (by omega)
end

end Mine

set_option Elab.async false
set_option linter.all false
set_option maxRecDepth 100000
set_option maxHeartbeats 1000000

--@@rec _copied _copied_statement

namespace Mine
open PySem PySem.Spec PyProof.Rows L2
local macro_rules | `(tactic| walk_at "my rn") => `(tactic| (repeat (first | with_reducible refine Rd.catQI ?_ | with_reducible refine Rd.revN ?_ | with_reducible refine Rd.lzip ?_ | with_reducible refine Rd.fld ?_ | with_reducible refine Rd.sfld ?_ | with_reducible refine Rd.meth ?_ | with_reducible refine Rd.make ?_ | with_reducible refine Rd.izip ?_ | with_reducible refine Rd.tupN ?_ | with_reducible refine Rd.lstN ?_ | with_reducible refine Rd.cbListOf ?_ | with_reducible refine Rd.cbListOfR ?_ | with_reducible refine Rd.catI ?_ | with_reducible refine Rd.slN ?_ | with_reducible refine Rd.cbSrtI ?_ | with_reducible refine Rd.seq ?_ | with_reducible refine Rd.next ?_ | with_reducible refine Rd.brk ?_ | with_reducible refine Rd.cont ?_ | with_reducible refine Rd.asg ?_ | with_reducible refine Rd.ret ?_ | with_reducible refine Rd.retN ?_ | with_reducible refine Rd.drop ?_ | with_reducible refine Rd.ifs ?_ | with_reducible refine Rd.ife ?_ | with_reducible refine Rd.test ?_ | with_reducible refine Rd.tb_ ?_ | with_reducible refine Rd.bl ?_ | with_reducible refine Rd.bl2 ?_ | with_reducible refine Rd.and_ ?_ | with_reducible refine Rd.or_ ?_ | with_reducible refine Rd.not_ ?_ | with_reducible refine Rd.andV ?_ | with_reducible refine Rd.orV ?_ | with_reducible refine Rd.notV ?_ | with_reducible refine Rd.op ?_ | with_reducible refine Rd.un ?_ | with_reducible refine Rd.I0 ?_ | with_reducible refine Rd.U ?_ | with_reducible refine Rd.ip ?_ | with_reducible refine Rd.c_ ?_ | with_reducible refine Rd.nil ?_ | with_reducible refine Rd.cons ?_ | with_reducible refine Rd.call ?_ | with_reducible refine Rd.cb ?_ | with_reducible refine Rd.bm ?_ | with_reducible refine Rd.bm0 ?_ | with_reducible refine Rd.nopart ?_ | with_reducible refine Rd.part ?_ | with_reducible refine Rd.int1 ?_ | with_reducible refine Rd.ints1 ?_ | with_reducible refine Rd.ints2 ?_ | with_reducible refine Rd.gcons ?_ | with_reducible refine Rd.gnil ?_ | with_reducible refine Rd.sub ?_ | with_reducible refine Rd.isN ?_ | with_reducible refine Rd.chain ?_ | with_reducible refine Rd.rf ?_ | with_reducible refine Rd.tyS ?_ | with_reducible refine Rd.intI ?_ | with_reducible refine Rd.lc ?_ | with_reducible refine Rd.for_ ?_ | with_reducible refine Rd.ilist ?_ | with_reducible refine Rd.itup ?_ | with_reducible refine Rd.irng1 ?_ | with_reducible refine Rd.irng2 ?_ | with_reducible refine Rd.ienum ?_ | with_reducible refine Rd.istr ?_ | with_reducible refine Rd.refA ?_ | with_reducible refine Rd.strA ?_ | with_reducible refine Rd.yes ?_ | with_reducible refine Rd.ifT ?_ | with_reducible refine Rd.ifF ?_ | with_reducible refine Rd.ifnT ?_ | with_reducible refine Rd.ifnF ?_ | with_reducible refine Rd.isi_ii ?_ | with_reducible refine Rd.isi_ib ?_ | with_reducible refine Rd.isi_is ?_ | with_reducible refine Rd.isi_il ?_ | with_reducible refine Rd.isi_it ?_ | with_reducible refine Rd.isi_id ?_ | with_reducible refine Rd.isi_bi ?_ | with_reducible refine Rd.isi_bb ?_ | with_reducible refine Rd.isi_bs ?_ | with_reducible refine Rd.isi_bl ?_ | with_reducible refine Rd.isi_bt ?_ | with_reducible refine Rd.isi_bd ?_ | with_reducible refine Rd.isi_si ?_ | with_reducible refine Rd.isi_sb ?_ | with_reducible refine Rd.isi_ss ?_ | with_reducible refine Rd.isi_sl ?_ | with_reducible refine Rd.isi_st ?_ | with_reducible refine Rd.isi_sd ?_ | with_reducible refine Rd.isi_ni ?_ | with_reducible refine Rd.isi_nb ?_ | with_reducible refine Rd.isi_ns ?_ | with_reducible refine Rd.isi_nl ?_ | with_reducible refine Rd.isi_nt ?_ | with_reducible refine Rd.isi_nd ?_ | with_reducible refine Rd.sl ?_ | with_reducible refine Rd.v0 ?_ | with_reducible refine Rd.v1 ?_ | with_reducible refine Rd.v2 ?_ | with_reducible refine Rd.v3 ?_ | with_reducible refine Rd.v4 ?_ | with_reducible refine Rd.v5 ?_ | with_reducible refine Rd.v6 ?_ | with_reducible refine Rd.v7 ?_ | with_reducible refine Rd.v8 ?_ | with_reducible refine Rd.v9 ?_ | with_reducible refine Rd.v10 ?_ | with_reducible refine Rd.v11 ?_ | with_reducible refine Rd.v12 ?_ | with_reducible refine Rd.v13 ?_ | with_reducible refine Rd.v14 ?_ | with_reducible refine Rd.v15 ?_ | with_reducible refine Rd.v16 ?_ | with_reducible refine Rd.v17 ?_ | with_reducible refine Rd.v18 ?_ | with_reducible refine Rd.v19 ?_ | with_reducible refine Rd.v20 ?_ | with_reducible refine Rd.v21 ?_ | with_reducible refine Rd.v22 ?_ | with_reducible refine Rd.v23 ?_ | with_reducible refine Rd.v24 ?_ | with_reducible refine Rd.v25 ?_ | with_reducible refine Rd.v26 ?_ | with_reducible refine Rd.v27 ?_ | with_reducible refine Rd.n0 ?_ | with_reducible refine Rd.n1 ?_ | with_reducible refine Rd.n2 ?_ | with_reducible refine Rd.n3 ?_ | with_reducible refine Rd.n4 ?_ | with_reducible refine Rd.n5 ?_ | with_reducible refine Rd.n6 ?_ | with_reducible refine Rd.n7 ?_ | with_reducible refine Rd.n8 ?_ | with_reducible refine Rd.n9 ?_ | with_reducible refine Rd.n10 ?_ | with_reducible refine Rd.n11 ?_ | with_reducible refine Rd.n12 ?_ | with_reducible refine Rd.n13 ?_ | with_reducible refine Rd.n14 ?_ | with_reducible refine Rd.n15 ?_ | with_reducible refine Rd.n16 ?_ | with_reducible refine Rd.n17 ?_ | with_reducible refine Rd.n18 ?_ | with_reducible refine Rd.n19 ?_ | with_reducible refine Rd.n20 ?_ | with_reducible refine Rd.n21 ?_ | with_reducible refine Rd.n22 ?_ | with_reducible refine Rd.n23 ?_ | with_reducible refine Rd.n24 ?_ | with_reducible refine Rd.n25 ?_ | with_reducible refine Rd.n26 ?_ | with_reducible refine Rd.n27 ?_ | with_reducible refine Rd.g0 ?_ | with_reducible refine Rd.g1 ?_ | with_reducible refine Rd.g2 ?_ | with_reducible refine Rd.g3 ?_ | with_reducible refine Rd.g4 ?_ | with_reducible refine Rd.g5 ?_ | with_reducible refine Rd.g6 ?_ | with_reducible refine Rd.g7 ?_ | with_reducible refine Rd.g8 ?_ | with_reducible refine Rd.g9 ?_ | with_reducible refine Rd.g10 ?_ | with_reducible refine Rd.g11 ?_ | with_reducible refine Rd.g12 ?_ | with_reducible refine Rd.g13 ?_ | with_reducible refine Rd.g14 ?_ | with_reducible refine Rd.g15 ?_ | with_reducible refine Rd.g16 ?_ | with_reducible refine Rd.g17 ?_ | with_reducible refine Rd.g18 ?_ | with_reducible refine Rd.g19 ?_ | with_reducible refine Rd.g20 ?_ | with_reducible refine Rd.g21 ?_ | with_reducible refine Rd.g22 ?_ | with_reducible refine Rd.g23 ?_ | with_reducible refine Rd.g24 ?_ | with_reducible refine Rd.g25 ?_ | with_reducible refine Rd.g26 ?_ | with_reducible refine Rd.g27 ?_ | ((with_reducible apply Rd.glst); (first | assumption | exact upd_same); exact rfl) | ((with_reducible apply Rd.gtP); assumption; assumption) | ((with_reducible apply Rd.revq); first | assumption | exact SqL.of (by assumption)) | ((with_reducible apply Rd.fldI); (first | assumption | exact upd_same); assumption; assumption; (first | assumption | with_unfolding_all rfl)) | ((with_reducible apply Rd.methI); (first | assumption | exact upd_same); (first | assumption | with_unfolding_all rfl)) | ((with_reducible apply Rd.sfldI); (first | assumption | exact upd_same); assumption; assumption; exact Nat.le_of_ble_eq_true rfl) | ((with_reducible apply Rd.maxL); assumption) | ((with_reducible apply Rd.anyL); assumption) | ((with_reducible apply Rd.sumL); assumption) | ((with_reducible refine Rd.izI (by assumption) (by assumption) ?_)) | ((with_reducible refine Rd.eq ?_ ?_); exact rfl) | ((with_reducible refine Rd.ne ?_ ?_); exact rfl) | ((with_reducible refine Rd.szA ?_ ?_); exact Nat.le_of_ble_eq_true rfl) | ((with_reducible refine Rd.I ?_ ?_); first | assumption | decide | exact Or.inr (by decide +kernel) | exact Or.inl (by decide +kernel) | exact ⟨by decide, by decide⟩ | exact ⟨by decide, by decide, by decide⟩ | omega) | ((with_reducible apply Rd.tyL); first | assumption | exact upd_same) | ((with_reducible apply Rd.tyLq); assumption) | ((with_reducible apply Rd.ixL); (first | assumption | exact upd_same); exact rfl) | ((with_reducible apply Rd.ixT); (first | assumption | exact upd_same); exact rfl) | ((with_reducible apply Rd.ixLq); assumption; exact rfl) | ((with_reducible apply Rd.ixTq); assumption; exact rfl) | ((with_reducible apply Rd.gtup); (first | assumption | exact upd_same); exact rfl) | ((with_reducible apply Rd.gtupq); assumption; exact rfl) | ((with_reducible apply Rd.sqAq); assumption) | ((with_reducible apply Rd.stAq); assumption) | ((with_reducible apply Rd.enAq); assumption) | ((with_reducible apply Rd.lenLq); assumption) | ((with_reducible apply Rd.lenTq); assumption) | ((with_reducible apply Rd.sqA); first | assumption | exact upd_same) | ((with_reducible apply Rd.stA); first | assumption | exact upd_same) | ((with_reducible apply Rd.enA); first | assumption | exact upd_same) | ((with_reducible apply Rd.lenL); first | assumption | exact upd_same) | ((with_reducible apply Rd.lenT); first | assumption | exact upd_same) | ((with_reducible refine Rd.nwT ?_ ?_); exact Nat.le_of_ble_eq_true rfl) | ((with_reducible refine Rd.nwL ?_ ?_); exact Nat.le_of_ble_eq_true rfl) | ((with_reducible apply Rd.listOf); assumption) | ((with_reducible apply Rd.listOfq); assumption) | ((with_reducible apply Rd.slo); assumption) | ((with_reducible apply Rd.slq); assumption) | ((with_reducible apply Rd.srtI); assumption) | ((with_reducible apply Rd.srtIo); assumption) | ((with_reducible refine Rd.isi_li (by assumption) ?_)) | ((with_reducible refine Rd.isi_lb (by assumption) ?_)) | ((with_reducible refine Rd.isi_ls (by assumption) ?_)) | ((with_reducible refine Rd.isi_ll (by assumption) ?_)) | ((with_reducible refine Rd.isi_lt (by assumption) ?_)) | ((with_reducible refine Rd.isi_ld (by assumption) ?_)) | ((with_reducible refine Rd.isi_ti (by assumption) ?_)) | ((with_reducible refine Rd.isi_tb (by assumption) ?_)) | ((with_reducible refine Rd.isi_ts (by assumption) ?_)) | ((with_reducible refine Rd.isi_tl (by assumption) ?_)) | ((with_reducible refine Rd.isi_tt (by assumption) ?_)) | ((with_reducible refine Rd.isi_td (by assumption) ?_)))))
/-! ### comprehensions whose elements are new lists of ints -/
theorem lc_fresh {J : It} {n : Nat} {G : Hp → Prop} {Y : Nat → Hp → V → Hp → Prop} (w : Walk J n G Y) {g : TG} {te : TE} {vs : List Nat} {σ : L2.St} {H1 : Hp} {D : Addr} {Qd : Hp → Prop} (R : Nat → List Int → Prop)
    (nD : H1 D = none) (hn : n ≤ 90000) (hG : ∀ H, Same H1 H → G H)
    (hs : ∀ i x H H' (Kt : VK), i < n → Same H1 H → Y i H x H' → (∀ a r H4, R i r → Same H H4 → H a = none → H4 a = some (.lst (r.map V.int)) → Kt (.ref a) H4) → g x (wipe σ vs) H' fun σ2 H2 => wipe σ2 vs = wipe σ vs ∧ te σ2 H2 Kt)
    (hd : ∀ H ls rows, rows.length = n → (∀ (i : Nat) r, rows[i]? = some r → R i r) → FoundAt H1 H D ls rows → Same H1 H → Qd H) :
    ∃ W : Nat → Nat → Hp → Prop, (∃ m, W 0 m (upd H1 D (.lst []))) ∧ ∀ i m H, W i m H →
      (J.stop i H ∧ Qd H) ∨ (J.go i H ∧ ∃ Nx : Hp → Prop, (∀ H', Nx H' → ∃ m', m' < m ∧ W (i + 1) m' H') ∧ ∀ x H', J.yld i H x H' → g x (wipe σ vs) H' fun σ2 H2 => wipe σ2 vs = wipe σ vs ∧ tYes σ2 H2 fun b H3 =>
        if b = true then te σ2 H3 fun y H4 => ∃ acc, H4 D = some (.lst acc) ∧ acc.length < sizeLine ∧ Nx (upd H4 D (.lst (acc ++ [y]))) else Nx H3) := by
  refine lc_it w (fun i H => ∃ ls rows, rows.length = i ∧ (∀ (i : Nat) r, rows[i]? = some r → R i r) ∧ FoundAt H1 H D ls rows ∧ Same H1 H)
    ⟨[], [], rfl, by simp, ⟨upd_same, rfl, by simp, .nil, by simp, nD⟩, same_new nD⟩ (fun i H _ ⟨_, _, _, _, _, s⟩ => hG H s) (fun i x H H' hi ⟨ls, rows, lr, hr, fa, s⟩ y => ?_) (fun H ⟨ls, rows, lr, hr, fa, s⟩ => hd H ls rows lr hr fa s)
  refine hs i x H H' _ hi s y fun a r H4 ra s4 na ha => ?_
  have nD' : a ≠ D := fun z => by have := fa.at_; rw [← z, na] at this; cases this
  have nm : a ∉ ls := fun m => by obtain ⟨x, e⟩ := fa.live m; rw [na] at e; cases e
  refine ⟨_, s4 _ _ fa.at_, Rd.szl (by rw [List.length_map, fa.len]; omega), ls ++ [a], rows ++ [r], by simp [lr], fun j r' h => ?_, ?_, fun b x e => ?_⟩
  · by_cases hj : j < rows.length
    · rw [List.getElem?_append_left hj] at h
      exact hr j r' h
    · have hj2 := (List.getElem?_eq_some_iff.mp h).1
      simp at hj2
      have ej : j = rows.length := by omega
      subst ej
      rw [List.getElem?_append_right (Nat.le_refl _)] at h
      simp at h
      subst h
      rw [lr]; exact ra
  · exact {
      at_ := by rw [upd_same, List.map_append]; rfl
      len := by simp [fa.len]
      row := fun j b r' h1 h2 => by
        by_cases hj : j < rows.length
        · rw [List.getElem?_append_left (by rw [fa.len]; exact hj)] at h1
          rw [List.getElem?_append_left hj] at h2
          rw [upd_ne (fa.new b (List.mem_of_getElem? h1)).2]
          exact s4 _ _ (fa.row j b r' h1 h2)
        · have hj2 := (List.getElem?_eq_some_iff.mp h2).1
          simp at hj2
          have ej : j = rows.length := by omega
          subst ej
          rw [List.getElem?_append_right (Nat.le_refl _)] at h2
          rw [← fa.len, List.getElem?_append_right (Nat.le_refl _)] at h1
          simp at h1 h2
          subst h1; subst h2
          rw [upd_ne nD']; exact ha
      nd := List.nodup_append.mpr ⟨fa.nd, by simp, fun b m c m2 z => nm (by rw [List.mem_singleton] at m2; rw [← m2, ← z]; exact m)⟩
      new := fun b m => by
        rcases List.mem_append.mp m with m | m
        · exact fa.new b m
        · rw [List.mem_singleton] at m
          subst m
          exact ⟨s.free na, nD'⟩
      newF := nD }
  · rw [upd_ne (fun z => by rw [z, nD] at e; cases e)]
    exact s4 _ _ (s _ _ e)
theorem FoundAt.cat {H0 H1 H2 H3 : Hp} {A B p : Addr} {ls ls2 : List Addr} {rows rows2 : List (List Int)} (f : FoundAt H0 H1 A ls rows) (g : FoundAt H1 H2 B ls2 rows2) (s0 : Same H0 H1) (s1 : Same H1 H2) (s2 : Same H2 H3) (np : H2 p = none) (hp : H3 p = some (.lst (ls.map V.ref ++ ls2.map V.ref))) : FoundAt H0 H3 p (ls ++ ls2) (rows ++ rows2) where
  at_ := by rw [hp, List.map_append]
  len := by simp [f.len, g.len]
  row := fun j b r h1 h2 => by
    by_cases hj : j < rows.length
    · rw [List.getElem?_append_left (by rw [f.len]; exact hj)] at h1
      rw [List.getElem?_append_left hj] at h2
      exact s2 _ _ (s1 _ _ (f.row j b r h1 h2))
    · rw [List.getElem?_append_right (by rw [f.len]; omega), f.len] at h1
      rw [List.getElem?_append_right (by omega)] at h2
      exact s2 _ _ (g.row _ b r h1 h2)
  nd := List.nodup_append.mpr ⟨f.nd, g.nd, fun a m b m2 z => by
    obtain ⟨x, e⟩ := f.live m
    rw [z, (g.new b m2).1] at e; cases e⟩
  new := fun a m => by
    rcases List.mem_append.mp m with m | m
    · obtain ⟨x, e⟩ := f.live m
      exact ⟨(f.new a m).1, fun z => by rw [z] at e; rw [s1 _ _ e] at np; cases np⟩
    · obtain ⟨x, e⟩ := g.live m
      exact ⟨s0.free (g.new a m).1, fun z => by rw [z, np] at e; cases e⟩
  newF := (s0.trans s1).free np
/-! ### used -/
def Pg.uses (p : Pg) : List (List Str) := p.tasks.map (fun t => callsN t.body) ++ p.irs.map (fun t => [t.obj])
def IsUse (p : Pg) (nms : List Str) (u : List Int) : Prop := u.Pairwise (· < ·) ∧ ∀ x : Int, x ∈ u ↔ ∃ j : Nat, x = j ∧ ∃ nm ∈ nms, Reach p.E (findN p.names nm).toNat j
theorem mem_out {p : Pg} {rows : List (List Int)} {nms : List Str} (lr : rows.length = p.obs.length) (ir : ∀ k r, rows[k]? = some r → IsRow p.E k r) (hn : ∀ nm ∈ nms, nm ∈ p.names) (x : Int) : x ∈ outI p.names rows nms ↔ ∃ j : Nat, x = j ∧ ∃ nm ∈ nms, Reach p.E (findN p.names nm).toNat j := by
  unfold outI
  rw [List.mem_flatMap]
  have at_ : ∀ nm ∈ nms, ∃ r, rows[(findN p.names nm).toNat]? = some r ∧ rows.getD (findN p.names nm).toNat [] = r := fun nm m => by
    have h := (findN_mem (hn nm m)).1
    unfold Pg.names at h
    rw [List.length_map] at h
    have e : rows[(findN (p.obs.map Ob.name) nm).toNat]? = some rows[(findN (p.obs.map Ob.name) nm).toNat] := List.getElem?_eq_getElem (by rw [lr]; exact h)
    exact ⟨_, e, by rw [List.getD_eq_getElem?_getD]; unfold Pg.names; rw [e]; rfl⟩
  constructor
  · rintro ⟨nm, m, h⟩
    obtain ⟨r, e1, e2⟩ := at_ nm m
    rw [e2] at h
    obtain ⟨j, e3, e4⟩ := ((ir _ _ e1).2 x).mp h
    exact ⟨j, e3, nm, m, e4⟩
  · rintro ⟨j, e3, nm, m, e4⟩
    obtain ⟨r, e1, e2⟩ := at_ nm m
    exact ⟨nm, m, by rw [e2]; exact ((ir _ _ e1).2 x).mpr ⟨j, e3, e4⟩⟩
section
variable {P : Program} {w : World} {K : PySem.W.Frag} {mg : Str → Option Value} {base : Heap}
def sp_used (K : PySem.W.Frag) : Sp := fun vs H Q _ => ∃ (t O T I : Addr) (os ts is : List V) (p : Pg), vs = [.ref t] ∧ PgAt K H t O T I os ts is p ∧ PgW p ∧
  ∀ (U : Addr) (ls : List Addr) (rows : List (List Int)) (H' : Hp), Same H H' → FoundAt H H' U ls rows → rows.length = p.uses.length → (∀ (k : Nat) nms u, p.uses[k]? = some nms → rows[k]? = some u → IsUse p nms u) → Q (.ref U) H'
theorem ok_used (T : Top K mg) : FnOk P w K mg base CX0 24 T.a_used T.d_used ["program"]  (sp_used K) := by
  refine T.F_used.ok sc_used (fun vs H Q E h => ?_) (fun cdv A outer s H vs Q E hr h => ?_)
  · obtain ⟨_, _, _, _, _, _, _, _, rfl, _⟩ := h
    rfl
  · obtain ⟨t, O, Ta, I, os, ts, is, p, rfl, pa, pw, q⟩ := h
    refine ⟨_, (pss_cons (ps_set (i := 1) sc_used.nd rfl (by first | exact Or.inl rfl | exact Or.inr rfl) (pe_call (ok_reached T) (hr.mono (by decide)) (by rfl) T.g_reached T.F_reached.kp T.b_reached .nil pass0 (pa_cons (pv 0) pa_nil)))
  (pss_cons (ps_setLc (i := 2) (own := [("task", 3)]) (g := gName 3) (tt := tYes) rfl sc_used.nd rfl rfl (sw_true rfl rfl rfl (by decide +kernel)) (pi_list (pe_ix ix_tup (pv 0) pe_int (fun _ _ => rfl))) (blkOk_by (N := ["program", "found", "by_tasks", "task", "by_interrupts", "interrupt"]) (sc := defScope s_used) (by decide +kernel)) (fun _ _ _ _ _ => pg_name (i := 3) sc_used.nd rfl (Or.inl rfl)) (fun _ _ _ _ _ => pts_nil) (fun _ _ _ _ _ => (pe_callB (show CallR _ (Value.builtin "sorted") (rSortedSet w) from cr_sortedSet rfl) (by rfl) T.m_sorted (by decide +kernel) (pa_cons (pe_callTy (show CallR _ (Value.type "set") (rSetI K w) from cr_setI rfl) (by rfl) T.m_set (by decide +kernel) (pa_cons (pe_call (ok__reached_by T) (hr.mono (by decide)) (by rfl) T.g__reached_by T.F__reached_by.kp T.b__reached_by .nil pass0 (pa_cons (pv 0) (pa_cons (pe_ix (r := rIxT K) ix_tup (pv 3) pe_int (fun _ _ => rfl)) (pa_cons (pv 1) pa_nil)))) pa_nil)) pa_nil))))
  (pss_cons (ps_setLc (i := 4) (own := [("interrupt", 5)]) (g := gName 5) (tt := tYes) rfl sc_used.nd rfl rfl (sw_true rfl rfl rfl (by decide +kernel)) (pi_list (pe_ix ix_tup (pv 0) pe_int (fun _ _ => rfl))) (blkOk_by (N := ["program", "found", "by_tasks", "task", "by_interrupts", "interrupt"]) (sc := defScope s_used) (by decide +kernel)) (fun _ _ _ _ _ => pg_name (i := 5) sc_used.nd rfl (Or.inl rfl)) (fun _ _ _ _ _ => pts_nil) (fun _ _ _ _ _ => (pe_callTy (show CallR _ (Value.type "list") (rListOf K) from call_list_of) (by rfl) T.m_list (by decide +kernel) (pa_cons (pe_ix (r := rIxL K) ix_list (pv 1) (pe_call (ok_find T) (hr.mono (by decide)) (by rfl) T.g_find T.F_find.kp T.b_find .nil pass0 (pa_cons (pe_ix (r := rIxT K) ix_tup (pv 0) pe_int (fun _ _ => rfl)) (pa_cons (pe_ix (r := rIxT K) ix_tup (pv 5) pe_int (fun _ _ => rfl)) pa_nil))) (fun _ _ => rfl)) pa_nil))))
  (pss_one (ps_ret (pe_op op_cat (pv 2) (pv 4))))))), ?_⟩
    obtain ⟨w0, w1, w2, ht⟩ := pa.ex
    have hT := pa.hT
    have hI := pa.hI
    have lT : ts.length = p.tasks.length := by rw [dps_len pa.aT, List.length_map]
    have lI : is.length = p.irs.length := by rw [dps_len pa.aI, List.length_map]
    obtain ⟨f1, f2, f3⟩ := pw.few
    rw [show ∀ a0 : V, L2.start ["program", "found", "by_tasks", "task", "by_interrupts", "interrupt"] [a0] = [some a0, none, none, none, none, none] from fun _ => rfl]
    walk_at "my rn"
    refine ⟨t, O, Ta, I, os, ts, is, p, rfl, pa, pw, fun F ls rows H1 s1 fa lr ir => ?_⟩
    have ht1 := s1.seqT ht
    have hT1 := s1.seq hT
    have sr : ∀ r ∈ rows, r.length ≤ p.obs.length := fun r m => by
      obtain ⟨k, hk⟩ := List.getElem?_of_mem m
      have hkl := (List.getElem?_eq_some_iff.mp hk).1
      have := strict_len r 0 p.obs.length (ir k r hk).1 (fun x m => by
        obtain ⟨j, e1, e2⟩ := ((ir k r hk).2 x).mp m
        have := reach_lt pw e2 (by omega)
        omega) (by omega)
      omega
    walk_at "my rn"
    refine fun D nD => lc_fresh (walk_list (xs := ts)) (fun i r => ∀ tk, p.tasks[i]? = some tk → IsUse p (callsN tk.body) r) nD (by omega) (fun H' s => s.seq hT1) (fun i x H2' H2 Kt hi s2 y kt => ?_) (fun H2 ls2 rows2 lr2 hr2 fa2 s2 => ?_)
    · obtain ⟨rfl, hx⟩ := y
      obtain ⟨d, hd, dd⟩ := dp_at' (pa.same (s1.trans s2)).aT hx
      obtain ⟨tk, htk, rfl⟩ : ∃ o, p.tasks[i]? = some o ∧ o.d = d := by
        rw [List.getElem?_map] at hd
        cases z : p.tasks[i]? with
        | none => rw [z] at hd; cases hd
        | some s => rw [z] at hd; exact ⟨s, rfl, Option.some.inj hd⟩
      obtain ⟨bp, nb⟩ := pw.body tk (List.mem_of_getElem? htk)
      obtain ⟨t5, xs, rfl, hx5, a5⟩ := dpT dd
      obtain ⟨u0, g0, rfl, _, a6⟩ := dp1 a5
      obtain ⟨u1, g0, rfl, _, a7⟩ := dp1 a6
      obtain ⟨u2, g0, rfl, _, a8⟩ := dp1 a7
      obtain ⟨u3, g0, rfl, _, a9⟩ := dp1 a8
      obtain ⟨u4, g0, rfl, _, a10⟩ := dp1 a9
      obtain ⟨u5, g0, rfl, d5, a11⟩ := dp1 a10
      cases dp0 a11
      have b0 := outI_len (ns := p.names) sr (callsN tk.body)
      have nb2 : (callsN tk.body).length ≤ 100 := by
        by_cases z : p.obs.length = 0
        · have e : callsN tk.body = [] := by
            cases hc : callsN tk.body with
            | nil => rfl
            | cons nm r =>
              have := bp.calls nm (by rw [hc]; exact List.mem_cons_self)
              have e2 : p.names = [] := by unfold Pg.names; rw [List.eq_nil_of_length_eq_zero z]; rfl
              rw [e2] at this; cases this
          rw [e]; decide
        · have : (callsN tk.body).length * 1 ≤ (callsN tk.body).length * p.obs.length := Nat.mul_le_mul (Nat.le_refl _) (by omega)
          omega
      simp only [List.map_cons, List.map_nil, L2.wipe, List.set_cons_succ, List.set_cons_zero]
      walk_at "my rn"
      refine ⟨rfl, ?_⟩
      walk_at "my rn"
      refine ⟨t, O, Ta, I, os, ts, is, p, u5, tk.body, H, F, ls, rows, rfl, pa.same (s1.trans s2), f1, d5, bp, fa.same s2, lr, sr, nb2, fun L H6 s6 nL hL => ?_⟩
      walk_at "my rn"
      refine rd_set (SqL.of hL) (by omega) fun q1 c1 H7 hc1 nq1 s7 hq1 => ?_
      walk_at "my rn"
      refine rd_sorted hq1 (by omega) fun zs z H8 pz mz lz nz s8 hz => ?_
      refine kt z zs H8 (fun tk' e => ?_) ((s6.trans s7).trans s8) ((s6.trans s7).free nz) hz
      rw [htk] at e; cases e
      exact ⟨pz, fun x => by rw [mz, decide_eq_true_iff]; exact mem_out lr ir bp.calls x⟩
    · have s12 := s1.trans s2
      have ht2 := s12.seqT ht
      have hI2 := s12.seq hI
      walk_at "my rn"
      refine fun D2 nD2 => lc_fresh (walk_list (xs := is)) (fun i r => ∀ tk, p.irs[i]? = some tk → IsUse p [tk.obj] r) nD2 (by omega) (fun H' s => s.seq hI2) (fun i x H3' H3 Kt hi s3 y kt => ?_) (fun H3 ls3 rows3 lr3 hr3 fa3 s3 => ?_)
      · obtain ⟨rfl, hx⟩ := y
        have s13 := s12.trans s3
        obtain ⟨d, hd, dd⟩ := dp_at' (pa.same s13).aI hx
        obtain ⟨tk, htk, rfl⟩ : ∃ o, p.irs[i]? = some o ∧ o.d = d := by
          rw [List.getElem?_map] at hd
          cases z : p.irs[i]? with
          | none => rw [z] at hd; cases hd
          | some s => rw [z] at hd; exact ⟨s, rfl, Option.some.inj hd⟩
        have mo := pw.irs tk (List.mem_of_getElem? htk)
        obtain ⟨m1, m2⟩ := findN_mem mo
        have m3 : (findN p.names tk.obj).toNat < rows.length := by rw [lr]; unfold Pg.names at m1; rwa [List.length_map] at m1
        obtain ⟨t5, xs, rfl, hx5, a5⟩ := dpT dd
        obtain ⟨u0, g0, rfl, _, a6⟩ := dp1 a5
        obtain ⟨u1, g0, rfl, _, a7⟩ := dp1 a6
        obtain ⟨u2, g0, rfl, _, a8⟩ := dp1 a7
        obtain ⟨u3, g0, rfl, _, a9⟩ := dp1 a8
        obtain ⟨u4, g0, rfl, d4, a10⟩ := dp1 a9
        cases dpS d4
        obtain ⟨u5, g0, rfl, _, a11⟩ := dp1 a10
        obtain ⟨u6, g0, rfl, _, a12⟩ := dp1 a11
        cases dp0 a12
        have ht3 := s13.seqT ht
        have hO3 := (pa.same s13).hO
        simp only [List.map_cons, List.map_nil, L2.wipe, List.set_cons_succ, List.set_cons_zero]
        walk_at "my rn"
        refine ⟨rfl, ?_⟩
        walk_at "my rn"
        refine ⟨O, os, p.names, tk.obj, rfl, hO3, named_of (pa.same s13).aO, by rw [pa.lenO]; omega, fun H4 s4 => ?_⟩
        obtain ⟨a, r, g1, g2, g3⟩ := (((fa.same s2).same s3).same s4).get m3
        have hF3 := (((fa.same s2).same s3).same s4).at_
        refine Rd.ixL hF3 (Rd.at_val (j := (findN p.names tk.obj).toNat) m2 (by rw [List.getElem?_map, g1]; rfl)) ?_
        walk_at "my rn"
        intro L H5 nL s5 hL
        walk_at "my rn"
        refine kt L r H5 (fun tk' e => ?_) (s4.trans s5) (s4.free nL) hL
        rw [htk] at e; cases e
        refine ⟨(ir _ _ g2).1, fun x => ?_⟩
        rw [(ir _ _ g2).2]
        constructor
        · rintro ⟨j, e1, e2⟩
          exact ⟨j, e1, _, List.mem_singleton.mpr rfl, e2⟩
        · rintro ⟨j, e1, nm, m, e2⟩
          rw [List.mem_singleton.mp m] at e2
          exact ⟨j, e1, e2⟩
      · have h2 := s3 _ _ fa2.at_
        have h3 := fa3.at_
        walk_at "my rn"
        refine Rd.cat h2 h3 (by rw [List.length_map, List.length_map, fa2.len, fa3.len]; omega) fun U H4 nU s4 hU => ?_
        have f := FoundAt.cat fa2 fa3 s2 s3 s4 nU hU
        have f0 : FoundAt H H4 U (ls2 ++ ls3) (rows2 ++ rows3) := { f with new := fun a m => ⟨s1.free (f.new a m).1, (f.new a m).2⟩, newF := s1.free f.newF }
        refine q U _ _ H4 ((s12.trans s3).trans s4) f0 (by unfold Pg.uses; simp [lr2, lr3, lT, lI]) fun k nms u h1 h2 => ?_
        unfold Pg.uses at h1
        by_cases hk : k < rows2.length
        · rw [List.getElem?_append_left hk] at h2
          rw [List.getElem?_append_left (by rw [List.length_map]; omega), List.getElem?_map] at h1
          cases z : p.tasks[k]? with
          | none => rw [z] at h1; cases h1
          | some tk =>
            rw [z] at h1; cases h1
            exact hr2 k u h2 tk z
        · rw [List.getElem?_append_right (by omega)] at h2
          rw [List.getElem?_append_right (by rw [List.length_map]; omega), List.getElem?_map, List.length_map] at h1
          rw [lr2, lT] at h2
          cases z : p.irs[k - p.tasks.length]? with
          | none => rw [z] at h1; cases h1
          | some tk =>
            rw [z] at h1; cases h1
            exact hr3 _ u h2 tk z
end

end Mine

set_option Elab.async false
set_option linter.all false
set_option maxRecDepth 100000
set_option maxHeartbeats 1000000

--@@rec _copied _copied_statement

namespace Mine
open PySem PySem.Spec PyProof.Rows L2
local macro_rules | `(tactic| walk_at "my rd") => `(tactic| (repeat (first | with_reducible refine Rd.catQI ?_ | with_reducible refine Rd.revN ?_ | with_reducible refine Rd.lzip ?_ | with_reducible refine Rd.fld ?_ | with_reducible refine Rd.sfld ?_ | with_reducible refine Rd.meth ?_ | with_reducible refine Rd.make ?_ | with_reducible refine Rd.izip ?_ | with_reducible refine Rd.seq ?_ | with_reducible refine Rd.next ?_ | with_reducible refine Rd.brk ?_ | with_reducible refine Rd.cont ?_ | with_reducible refine Rd.asg ?_ | with_reducible refine Rd.ret ?_ | with_reducible refine Rd.retN ?_ | with_reducible refine Rd.drop ?_ | with_reducible refine Rd.ifs ?_ | with_reducible refine Rd.ife ?_ | with_reducible refine Rd.test ?_ | with_reducible refine Rd.tb_ ?_ | with_reducible refine Rd.bl ?_ | with_reducible refine Rd.bl2 ?_ | with_reducible refine Rd.and_ ?_ | with_reducible refine Rd.or_ ?_ | with_reducible refine Rd.not_ ?_ | with_reducible refine Rd.andV ?_ | with_reducible refine Rd.orV ?_ | with_reducible refine Rd.notV ?_ | with_reducible refine Rd.op ?_ | with_reducible refine Rd.un ?_ | with_reducible refine Rd.I0 ?_ | with_reducible refine Rd.U ?_ | with_reducible refine Rd.ip ?_ | with_reducible refine Rd.c_ ?_ | with_reducible refine Rd.nil ?_ | with_reducible refine Rd.cons ?_ | with_reducible refine Rd.tup ?_ | with_reducible refine Rd.lst ?_ | with_reducible refine Rd.call ?_ | with_reducible refine Rd.cb ?_ | with_reducible refine Rd.bm ?_ | with_reducible refine Rd.bm0 ?_ | with_reducible refine Rd.sl ?_ | with_reducible refine Rd.nopart ?_ | with_reducible refine Rd.part ?_ | with_reducible refine Rd.int1 ?_ | with_reducible refine Rd.ints1 ?_ | with_reducible refine Rd.ints2 ?_ | with_reducible refine Rd.gcons ?_ | with_reducible refine Rd.gnil ?_ | with_reducible refine Rd.sub ?_ | with_reducible refine Rd.isN ?_ | with_reducible refine Rd.chain ?_ | with_reducible refine Rd.rf ?_ | with_reducible refine Rd.tyS ?_ | with_reducible refine Rd.intI ?_ | with_reducible refine Rd.lc ?_ | with_reducible refine Rd.for_ ?_ | with_reducible refine Rd.ilist ?_ | with_reducible refine Rd.itup ?_ | with_reducible refine Rd.irng1 ?_ | with_reducible refine Rd.irng2 ?_ | with_reducible refine Rd.ienum ?_ | with_reducible refine Rd.istr ?_ | with_reducible refine Rd.refA ?_ | with_reducible refine Rd.strA ?_ | with_reducible refine Rd.yes ?_ | with_reducible refine Rd.ifT ?_ | with_reducible refine Rd.ifF ?_ | with_reducible refine Rd.ifnT ?_ | with_reducible refine Rd.ifnF ?_ | with_reducible refine Rd.isi_ii ?_ | with_reducible refine Rd.isi_ib ?_ | with_reducible refine Rd.isi_is ?_ | with_reducible refine Rd.isi_il ?_ | with_reducible refine Rd.isi_it ?_ | with_reducible refine Rd.isi_id ?_ | with_reducible refine Rd.isi_bi ?_ | with_reducible refine Rd.isi_bb ?_ | with_reducible refine Rd.isi_bs ?_ | with_reducible refine Rd.isi_bl ?_ | with_reducible refine Rd.isi_bt ?_ | with_reducible refine Rd.isi_bd ?_ | with_reducible refine Rd.isi_si ?_ | with_reducible refine Rd.isi_sb ?_ | with_reducible refine Rd.isi_ss ?_ | with_reducible refine Rd.isi_sl ?_ | with_reducible refine Rd.isi_st ?_ | with_reducible refine Rd.isi_sd ?_ | with_reducible refine Rd.isi_ni ?_ | with_reducible refine Rd.isi_nb ?_ | with_reducible refine Rd.isi_ns ?_ | with_reducible refine Rd.isi_nl ?_ | with_reducible refine Rd.isi_nt ?_ | with_reducible refine Rd.isi_nd ?_ | with_reducible refine Rd.v0 ?_ | with_reducible refine Rd.v1 ?_ | with_reducible refine Rd.v2 ?_ | with_reducible refine Rd.v3 ?_ | with_reducible refine Rd.v4 ?_ | with_reducible refine Rd.v5 ?_ | with_reducible refine Rd.v6 ?_ | with_reducible refine Rd.v7 ?_ | with_reducible refine Rd.v8 ?_ | with_reducible refine Rd.v9 ?_ | with_reducible refine Rd.v10 ?_ | with_reducible refine Rd.v11 ?_ | with_reducible refine Rd.v12 ?_ | with_reducible refine Rd.v13 ?_ | with_reducible refine Rd.v14 ?_ | with_reducible refine Rd.v15 ?_ | with_reducible refine Rd.v16 ?_ | with_reducible refine Rd.v17 ?_ | with_reducible refine Rd.v18 ?_ | with_reducible refine Rd.v19 ?_ | with_reducible refine Rd.v20 ?_ | with_reducible refine Rd.v21 ?_ | with_reducible refine Rd.v22 ?_ | with_reducible refine Rd.v23 ?_ | with_reducible refine Rd.v24 ?_ | with_reducible refine Rd.v25 ?_ | with_reducible refine Rd.v26 ?_ | with_reducible refine Rd.v27 ?_ | with_reducible refine Rd.n0 ?_ | with_reducible refine Rd.n1 ?_ | with_reducible refine Rd.n2 ?_ | with_reducible refine Rd.n3 ?_ | with_reducible refine Rd.n4 ?_ | with_reducible refine Rd.n5 ?_ | with_reducible refine Rd.n6 ?_ | with_reducible refine Rd.n7 ?_ | with_reducible refine Rd.n8 ?_ | with_reducible refine Rd.n9 ?_ | with_reducible refine Rd.n10 ?_ | with_reducible refine Rd.n11 ?_ | with_reducible refine Rd.n12 ?_ | with_reducible refine Rd.n13 ?_ | with_reducible refine Rd.n14 ?_ | with_reducible refine Rd.n15 ?_ | with_reducible refine Rd.n16 ?_ | with_reducible refine Rd.n17 ?_ | with_reducible refine Rd.n18 ?_ | with_reducible refine Rd.n19 ?_ | with_reducible refine Rd.n20 ?_ | with_reducible refine Rd.n21 ?_ | with_reducible refine Rd.n22 ?_ | with_reducible refine Rd.n23 ?_ | with_reducible refine Rd.n24 ?_ | with_reducible refine Rd.n25 ?_ | with_reducible refine Rd.n26 ?_ | with_reducible refine Rd.n27 ?_ | with_reducible refine Rd.g0 ?_ | with_reducible refine Rd.g1 ?_ | with_reducible refine Rd.g2 ?_ | with_reducible refine Rd.g3 ?_ | with_reducible refine Rd.g4 ?_ | with_reducible refine Rd.g5 ?_ | with_reducible refine Rd.g6 ?_ | with_reducible refine Rd.g7 ?_ | with_reducible refine Rd.g8 ?_ | with_reducible refine Rd.g9 ?_ | with_reducible refine Rd.g10 ?_ | with_reducible refine Rd.g11 ?_ | with_reducible refine Rd.g12 ?_ | with_reducible refine Rd.g13 ?_ | with_reducible refine Rd.g14 ?_ | with_reducible refine Rd.g15 ?_ | with_reducible refine Rd.g16 ?_ | with_reducible refine Rd.g17 ?_ | with_reducible refine Rd.g18 ?_ | with_reducible refine Rd.g19 ?_ | with_reducible refine Rd.g20 ?_ | with_reducible refine Rd.g21 ?_ | with_reducible refine Rd.g22 ?_ | with_reducible refine Rd.g23 ?_ | with_reducible refine Rd.g24 ?_ | with_reducible refine Rd.g25 ?_ | with_reducible refine Rd.g26 ?_ | with_reducible refine Rd.g27 ?_ | ((with_reducible apply Rd.glst); (first | assumption | exact upd_same); exact rfl) | ((with_reducible apply Rd.gtP); assumption; assumption) | ((with_reducible apply Rd.revq); first | assumption | exact SqL.of (by assumption)) | ((with_reducible apply Rd.fldI); (first | assumption | exact upd_same); assumption; assumption; (first | assumption | with_unfolding_all rfl)) | ((with_reducible apply Rd.methI); (first | assumption | exact upd_same); (first | assumption | with_unfolding_all rfl)) | ((with_reducible apply Rd.sfldI); (first | assumption | exact upd_same); assumption; assumption; exact Nat.le_of_ble_eq_true rfl) | ((with_reducible apply Rd.maxL); assumption) | ((with_reducible apply Rd.anyL); assumption) | ((with_reducible apply Rd.sumL); assumption) | ((with_reducible refine Rd.izI (by assumption) (by assumption) ?_)) | ((with_reducible refine Rd.eq ?_ ?_); exact rfl) | ((with_reducible refine Rd.ne ?_ ?_); exact rfl) | ((with_reducible refine Rd.szA ?_ ?_); exact Nat.le_of_ble_eq_true rfl) | ((with_reducible refine Rd.I ?_ ?_); first | assumption | decide | exact Or.inr (by decide +kernel) | exact Or.inl (by decide +kernel) | exact ⟨by decide, by decide⟩ | exact ⟨by decide, by decide, by decide⟩ | omega) | ((with_reducible apply Rd.tyL); first | assumption | exact upd_same) | ((with_reducible apply Rd.tyLq); assumption) | ((with_reducible apply Rd.ixL); (first | assumption | exact upd_same); exact rfl) | ((with_reducible apply Rd.ixT); (first | assumption | exact upd_same); exact rfl) | ((with_reducible apply Rd.ixLq); assumption; exact rfl) | ((with_reducible apply Rd.ixTq); assumption; exact rfl) | ((with_reducible apply Rd.gtup); (first | assumption | exact upd_same); exact rfl) | ((with_reducible apply Rd.gtupq); assumption; exact rfl) | ((with_reducible apply Rd.sqAq); assumption) | ((with_reducible apply Rd.stAq); assumption) | ((with_reducible apply Rd.enAq); assumption) | ((with_reducible apply Rd.lenLq); assumption) | ((with_reducible apply Rd.lenTq); assumption) | ((with_reducible apply Rd.sqA); first | assumption | exact upd_same) | ((with_reducible apply Rd.stA); first | assumption | exact upd_same) | ((with_reducible apply Rd.enA); first | assumption | exact upd_same) | ((with_reducible apply Rd.lenL); first | assumption | exact upd_same) | ((with_reducible apply Rd.lenT); first | assumption | exact upd_same) | ((with_reducible refine Rd.nwT ?_ ?_); exact Nat.le_of_ble_eq_true rfl) | ((with_reducible refine Rd.nwL ?_ ?_); exact Nat.le_of_ble_eq_true rfl) | ((with_reducible apply Rd.listOf); assumption) | ((with_reducible apply Rd.listOfq); assumption) | ((with_reducible apply Rd.slo); assumption) | ((with_reducible apply Rd.slq); assumption) | ((with_reducible apply Rd.srtI); assumption) | ((with_reducible apply Rd.srtIo); assumption) | ((with_reducible refine Rd.isi_li (by assumption) ?_)) | ((with_reducible refine Rd.isi_lb (by assumption) ?_)) | ((with_reducible refine Rd.isi_ls (by assumption) ?_)) | ((with_reducible refine Rd.isi_ll (by assumption) ?_)) | ((with_reducible refine Rd.isi_lt (by assumption) ?_)) | ((with_reducible refine Rd.isi_ld (by assumption) ?_)) | ((with_reducible refine Rd.isi_ti (by assumption) ?_)) | ((with_reducible refine Rd.isi_tb (by assumption) ?_)) | ((with_reducible refine Rd.isi_ts (by assumption) ?_)) | ((with_reducible refine Rd.isi_tl (by assumption) ?_)) | ((with_reducible refine Rd.isi_tt (by assumption) ?_)) | ((with_reducible refine Rd.isi_td (by assumption) ?_)))))
local macro_rules | `(tactic| walk_at "my rn") => `(tactic| (repeat (first | with_reducible refine Rd.catQI ?_ | with_reducible refine Rd.revN ?_ | with_reducible refine Rd.lzip ?_ | with_reducible refine Rd.fld ?_ | with_reducible refine Rd.sfld ?_ | with_reducible refine Rd.meth ?_ | with_reducible refine Rd.make ?_ | with_reducible refine Rd.izip ?_ | with_reducible refine Rd.tupN ?_ | with_reducible refine Rd.lstN ?_ | with_reducible refine Rd.cbListOf ?_ | with_reducible refine Rd.cbListOfR ?_ | with_reducible refine Rd.catI ?_ | with_reducible refine Rd.slN ?_ | with_reducible refine Rd.cbSrtI ?_ | with_reducible refine Rd.seq ?_ | with_reducible refine Rd.next ?_ | with_reducible refine Rd.brk ?_ | with_reducible refine Rd.cont ?_ | with_reducible refine Rd.asg ?_ | with_reducible refine Rd.ret ?_ | with_reducible refine Rd.retN ?_ | with_reducible refine Rd.drop ?_ | with_reducible refine Rd.ifs ?_ | with_reducible refine Rd.ife ?_ | with_reducible refine Rd.test ?_ | with_reducible refine Rd.tb_ ?_ | with_reducible refine Rd.bl ?_ | with_reducible refine Rd.bl2 ?_ | with_reducible refine Rd.and_ ?_ | with_reducible refine Rd.or_ ?_ | with_reducible refine Rd.not_ ?_ | with_reducible refine Rd.andV ?_ | with_reducible refine Rd.orV ?_ | with_reducible refine Rd.notV ?_ | with_reducible refine Rd.op ?_ | with_reducible refine Rd.un ?_ | with_reducible refine Rd.I0 ?_ | with_reducible refine Rd.U ?_ | with_reducible refine Rd.ip ?_ | with_reducible refine Rd.c_ ?_ | with_reducible refine Rd.nil ?_ | with_reducible refine Rd.cons ?_ | with_reducible refine Rd.call ?_ | with_reducible refine Rd.cb ?_ | with_reducible refine Rd.bm ?_ | with_reducible refine Rd.bm0 ?_ | with_reducible refine Rd.nopart ?_ | with_reducible refine Rd.part ?_ | with_reducible refine Rd.int1 ?_ | with_reducible refine Rd.ints1 ?_ | with_reducible refine Rd.ints2 ?_ | with_reducible refine Rd.gcons ?_ | with_reducible refine Rd.gnil ?_ | with_reducible refine Rd.sub ?_ | with_reducible refine Rd.isN ?_ | with_reducible refine Rd.chain ?_ | with_reducible refine Rd.rf ?_ | with_reducible refine Rd.tyS ?_ | with_reducible refine Rd.intI ?_ | with_reducible refine Rd.lc ?_ | with_reducible refine Rd.for_ ?_ | with_reducible refine Rd.ilist ?_ | with_reducible refine Rd.itup ?_ | with_reducible refine Rd.irng1 ?_ | with_reducible refine Rd.irng2 ?_ | with_reducible refine Rd.ienum ?_ | with_reducible refine Rd.istr ?_ | with_reducible refine Rd.refA ?_ | with_reducible refine Rd.strA ?_ | with_reducible refine Rd.yes ?_ | with_reducible refine Rd.ifT ?_ | with_reducible refine Rd.ifF ?_ | with_reducible refine Rd.ifnT ?_ | with_reducible refine Rd.ifnF ?_ | with_reducible refine Rd.isi_ii ?_ | with_reducible refine Rd.isi_ib ?_ | with_reducible refine Rd.isi_is ?_ | with_reducible refine Rd.isi_il ?_ | with_reducible refine Rd.isi_it ?_ | with_reducible refine Rd.isi_id ?_ | with_reducible refine Rd.isi_bi ?_ | with_reducible refine Rd.isi_bb ?_ | with_reducible refine Rd.isi_bs ?_ | with_reducible refine Rd.isi_bl ?_ | with_reducible refine Rd.isi_bt ?_ | with_reducible refine Rd.isi_bd ?_ | with_reducible refine Rd.isi_si ?_ | with_reducible refine Rd.isi_sb ?_ | with_reducible refine Rd.isi_ss ?_ | with_reducible refine Rd.isi_sl ?_ | with_reducible refine Rd.isi_st ?_ | with_reducible refine Rd.isi_sd ?_ | with_reducible refine Rd.isi_ni ?_ | with_reducible refine Rd.isi_nb ?_ | with_reducible refine Rd.isi_ns ?_ | with_reducible refine Rd.isi_nl ?_ | with_reducible refine Rd.isi_nt ?_ | with_reducible refine Rd.isi_nd ?_ | with_reducible refine Rd.sl ?_ | with_reducible refine Rd.v0 ?_ | with_reducible refine Rd.v1 ?_ | with_reducible refine Rd.v2 ?_ | with_reducible refine Rd.v3 ?_ | with_reducible refine Rd.v4 ?_ | with_reducible refine Rd.v5 ?_ | with_reducible refine Rd.v6 ?_ | with_reducible refine Rd.v7 ?_ | with_reducible refine Rd.v8 ?_ | with_reducible refine Rd.v9 ?_ | with_reducible refine Rd.v10 ?_ | with_reducible refine Rd.v11 ?_ | with_reducible refine Rd.v12 ?_ | with_reducible refine Rd.v13 ?_ | with_reducible refine Rd.v14 ?_ | with_reducible refine Rd.v15 ?_ | with_reducible refine Rd.v16 ?_ | with_reducible refine Rd.v17 ?_ | with_reducible refine Rd.v18 ?_ | with_reducible refine Rd.v19 ?_ | with_reducible refine Rd.v20 ?_ | with_reducible refine Rd.v21 ?_ | with_reducible refine Rd.v22 ?_ | with_reducible refine Rd.v23 ?_ | with_reducible refine Rd.v24 ?_ | with_reducible refine Rd.v25 ?_ | with_reducible refine Rd.v26 ?_ | with_reducible refine Rd.v27 ?_ | with_reducible refine Rd.n0 ?_ | with_reducible refine Rd.n1 ?_ | with_reducible refine Rd.n2 ?_ | with_reducible refine Rd.n3 ?_ | with_reducible refine Rd.n4 ?_ | with_reducible refine Rd.n5 ?_ | with_reducible refine Rd.n6 ?_ | with_reducible refine Rd.n7 ?_ | with_reducible refine Rd.n8 ?_ | with_reducible refine Rd.n9 ?_ | with_reducible refine Rd.n10 ?_ | with_reducible refine Rd.n11 ?_ | with_reducible refine Rd.n12 ?_ | with_reducible refine Rd.n13 ?_ | with_reducible refine Rd.n14 ?_ | with_reducible refine Rd.n15 ?_ | with_reducible refine Rd.n16 ?_ | with_reducible refine Rd.n17 ?_ | with_reducible refine Rd.n18 ?_ | with_reducible refine Rd.n19 ?_ | with_reducible refine Rd.n20 ?_ | with_reducible refine Rd.n21 ?_ | with_reducible refine Rd.n22 ?_ | with_reducible refine Rd.n23 ?_ | with_reducible refine Rd.n24 ?_ | with_reducible refine Rd.n25 ?_ | with_reducible refine Rd.n26 ?_ | with_reducible refine Rd.n27 ?_ | with_reducible refine Rd.g0 ?_ | with_reducible refine Rd.g1 ?_ | with_reducible refine Rd.g2 ?_ | with_reducible refine Rd.g3 ?_ | with_reducible refine Rd.g4 ?_ | with_reducible refine Rd.g5 ?_ | with_reducible refine Rd.g6 ?_ | with_reducible refine Rd.g7 ?_ | with_reducible refine Rd.g8 ?_ | with_reducible refine Rd.g9 ?_ | with_reducible refine Rd.g10 ?_ | with_reducible refine Rd.g11 ?_ | with_reducible refine Rd.g12 ?_ | with_reducible refine Rd.g13 ?_ | with_reducible refine Rd.g14 ?_ | with_reducible refine Rd.g15 ?_ | with_reducible refine Rd.g16 ?_ | with_reducible refine Rd.g17 ?_ | with_reducible refine Rd.g18 ?_ | with_reducible refine Rd.g19 ?_ | with_reducible refine Rd.g20 ?_ | with_reducible refine Rd.g21 ?_ | with_reducible refine Rd.g22 ?_ | with_reducible refine Rd.g23 ?_ | with_reducible refine Rd.g24 ?_ | with_reducible refine Rd.g25 ?_ | with_reducible refine Rd.g26 ?_ | with_reducible refine Rd.g27 ?_ | ((with_reducible apply Rd.glst); (first | assumption | exact upd_same); exact rfl) | ((with_reducible apply Rd.gtP); assumption; assumption) | ((with_reducible apply Rd.revq); first | assumption | exact SqL.of (by assumption)) | ((with_reducible apply Rd.fldI); (first | assumption | exact upd_same); assumption; assumption; (first | assumption | with_unfolding_all rfl)) | ((with_reducible apply Rd.methI); (first | assumption | exact upd_same); (first | assumption | with_unfolding_all rfl)) | ((with_reducible apply Rd.sfldI); (first | assumption | exact upd_same); assumption; assumption; exact Nat.le_of_ble_eq_true rfl) | ((with_reducible apply Rd.maxL); assumption) | ((with_reducible apply Rd.anyL); assumption) | ((with_reducible apply Rd.sumL); assumption) | ((with_reducible refine Rd.izI (by assumption) (by assumption) ?_)) | ((with_reducible refine Rd.eq ?_ ?_); exact rfl) | ((with_reducible refine Rd.ne ?_ ?_); exact rfl) | ((with_reducible refine Rd.szA ?_ ?_); exact Nat.le_of_ble_eq_true rfl) | ((with_reducible refine Rd.I ?_ ?_); first | assumption | decide | exact Or.inr (by decide +kernel) | exact Or.inl (by decide +kernel) | exact ⟨by decide, by decide⟩ | exact ⟨by decide, by decide, by decide⟩ | omega) | ((with_reducible apply Rd.tyL); first | assumption | exact upd_same) | ((with_reducible apply Rd.tyLq); assumption) | ((with_reducible apply Rd.ixL); (first | assumption | exact upd_same); exact rfl) | ((with_reducible apply Rd.ixT); (first | assumption | exact upd_same); exact rfl) | ((with_reducible apply Rd.ixLq); assumption; exact rfl) | ((with_reducible apply Rd.ixTq); assumption; exact rfl) | ((with_reducible apply Rd.gtup); (first | assumption | exact upd_same); exact rfl) | ((with_reducible apply Rd.gtupq); assumption; exact rfl) | ((with_reducible apply Rd.sqAq); assumption) | ((with_reducible apply Rd.stAq); assumption) | ((with_reducible apply Rd.enAq); assumption) | ((with_reducible apply Rd.lenLq); assumption) | ((with_reducible apply Rd.lenTq); assumption) | ((with_reducible apply Rd.sqA); first | assumption | exact upd_same) | ((with_reducible apply Rd.stA); first | assumption | exact upd_same) | ((with_reducible apply Rd.enA); first | assumption | exact upd_same) | ((with_reducible apply Rd.lenL); first | assumption | exact upd_same) | ((with_reducible apply Rd.lenT); first | assumption | exact upd_same) | ((with_reducible refine Rd.nwT ?_ ?_); exact Nat.le_of_ble_eq_true rfl) | ((with_reducible refine Rd.nwL ?_ ?_); exact Nat.le_of_ble_eq_true rfl) | ((with_reducible apply Rd.listOf); assumption) | ((with_reducible apply Rd.listOfq); assumption) | ((with_reducible apply Rd.slo); assumption) | ((with_reducible apply Rd.slq); assumption) | ((with_reducible apply Rd.srtI); assumption) | ((with_reducible apply Rd.srtIo); assumption) | ((with_reducible refine Rd.isi_li (by assumption) ?_)) | ((with_reducible refine Rd.isi_lb (by assumption) ?_)) | ((with_reducible refine Rd.isi_ls (by assumption) ?_)) | ((with_reducible refine Rd.isi_ll (by assumption) ?_)) | ((with_reducible refine Rd.isi_lt (by assumption) ?_)) | ((with_reducible refine Rd.isi_ld (by assumption) ?_)) | ((with_reducible refine Rd.isi_ti (by assumption) ?_)) | ((with_reducible refine Rd.isi_tb (by assumption) ?_)) | ((with_reducible refine Rd.isi_ts (by assumption) ?_)) | ((with_reducible refine Rd.isi_tl (by assumption) ?_)) | ((with_reducible refine Rd.isi_tt (by assumption) ?_)) | ((with_reducible refine Rd.isi_td (by assumption) ?_)))))
/-! ### what == and index compare: data under an object -/
def DOk (n : Nat) (d : PyData) : Prop := d.canLay0 = true ∧ d.depth ≤ n
theorem DOk.shaped {n : Nat} {d : PyData} (h : DOk n d) (hn : n ≤ 64) : SeqAt.shaped d = true := by
  unfold SeqAt.shaped
  rw [h.1, decide_eq_true (Nat.le_trans h.2 hn)]
  rfl
theorem DOk.mono {n m : Nat} {d : PyData} (h : DOk n d) (hn : n ≤ m) : DOk m d := ⟨h.1, Nat.le_trans h.2 hn⟩
theorem dok_int {n : Nat} {i : Int} : DOk n (.int i) := ⟨by simp only [PyData.canLay0], by simp only [PyData.depth]; exact Nat.zero_le _⟩
theorem dok_non {n : Nat} : DOk n .none := ⟨by simp only [PyData.canLay0], by simp only [PyData.depth]; exact Nat.zero_le _⟩
theorem dok_bl {n : Nat} {b : Bool} : DOk n (.bool b) := ⟨by simp only [PyData.canLay0], by simp only [PyData.depth]; exact Nat.zero_le _⟩
theorem dok_str {n : Nat} {x : Str} (h : PyData.strOk x = true) : DOk n (.str x) := ⟨by simp only [PyData.canLay0]; exact h, by simp only [PyData.depth]; exact Nat.zero_le _⟩
theorem dok_all {n : Nat} : ∀ {ds : List PyData}, (∀ d ∈ ds, DOk n d) → PyData.canLayAll0 ds = true ∧ PyData.depthAll ds ≤ n
  | [], _ => ⟨by simp only [PyData.canLayAll0], by simp only [PyData.depthAll]; exact Nat.zero_le _⟩
  | d :: r, h => by
    obtain ⟨a, b⟩ := dok_all (ds := r) fun x m => h x (List.mem_cons_of_mem _ m)
    obtain ⟨c, e⟩ := h d List.mem_cons_self
    exact ⟨by simp only [PyData.canLayAll0, c, a] <;> rfl, by simp only [PyData.depthAll]; omega⟩
theorem dok_list {n : Nat} {ds : List PyData} (h : ∀ d ∈ ds, DOk n d) : DOk (n + 1) (.list ds) := by
  obtain ⟨a, b⟩ := dok_all h
  exact ⟨by simp only [PyData.canLay0]; exact a, by simp only [PyData.depth]; omega⟩
theorem dok_tup {n : Nat} {ds : List PyData} (h : ∀ d ∈ ds, DOk n d) : DOk (n + 1) (.tuple ds) := by
  obtain ⟨a, b⟩ := dok_all h
  exact ⟨by simp only [PyData.canLay0]; exact a, by simp only [PyData.depth]; omega⟩
theorem dpAll_map {K : PySem.W.Frag} {H : Hp} (f : V → PyData) : ∀ {zs : List V}, (∀ v ∈ zs, Dp K H v (f v)) → DpAll K H zs (zs.map f)
  | [], _ => .nil
  | z :: r, h => .cons (h z List.mem_cons_self) (dpAll_map f fun v m => h v (List.mem_cons_of_mem _ m))
theorem dpAll_ints {K : PySem.W.Frag} {H : Hp} : ∀ {ns : List Int}, DpAll K H (ns.map V.int) (ns.map PyData.int)
  | [] => .nil
  | n :: r => .cons (.int n) dpAll_ints
theorem dp_ints {K : PySem.W.Frag} {H : Hp} {a : Addr} {ns : List Int} (h : SqL K H a (ns.map V.int)) : Dp K H (.ref a) (.list (ns.map PyData.int)) := .lst h dpAll_ints
theorem dp_intsT {K : PySem.W.Frag} {H : Hp} {a : Addr} {ns : List Int} (h : SqT K H a (ns.map V.int)) : Dp K H (.ref a) (.tuple (ns.map PyData.int)) := .tup h dpAll_ints
theorem ints_dok (n : Nat) (ns : List Int) : DOk (n + 1) (.list (ns.map PyData.int)) := dok_list fun d m => by
  obtain ⟨i, _, rfl⟩ := List.mem_map.mp m
  exact dok_int
theorem ints_shaped (ns : List Int) : SeqAt.shaped (.list (ns.map PyData.int)) = true := (ints_dok 0 ns).shaped (by decide)
theorem eqvAll_ints : ∀ ns ms : List Int, PyData.eqvAll (ns.map PyData.int) (ms.map PyData.int) = decide (ns = ms)
  | [], [] => by simp [PyData.eqvAll]
  | [], b :: s => by simp [PyData.eqvAll]
  | a :: r, [] => by simp [PyData.eqvAll]
  | a :: r, b :: s => by
    rw [List.map_cons, List.map_cons, PyData.eqvAll, eqvAll_ints r s, PyData.eqv]
    by_cases h : a = b <;> by_cases h2 : r = s <;> simp [h, h2]
theorem eqv_ints (ns ms : List Int) : PyData.eqv (.list (ns.map PyData.int)) (.list (ms.map PyData.int)) = decide (ns = ms) := by
  rw [PyData.eqv, eqvAll_ints]
theorem eqv_intsT (ns ms : List Int) : PyData.eqv (.tuple (ns.map PyData.int)) (.tuple (ms.map PyData.int)) = decide (ns = ms) := by
  rw [PyData.eqv, eqvAll_ints]

/-! ### deadbeat.orders: numbers of tasks and interrupts -/
/-- how many keys (-w, -t) are less than that of t: longer deadlines, or the same and a later task -/
def below (ws : List Int) (t j : Nat) : Bool := SrtO.lexB (-(ws.getD j 0), -(j : Int)) (-(ws.getD t 0), -(t : Int))
def rk (ws : List Int) (t : Nat) : Nat := (List.range ws.length).countP (below ws t)
def numsOf (ws : List Int) (m : Nat) : List Int := ((List.range ws.length).map fun t => ((rk ws t : Nat) : Int) + 1) ++ (List.range m).map fun (i : Nat) => (9 : Int) + (i : Int)
/-- the index of an element in a list that is strictly sorted is the number of lesser ones -/
theorem countP_at {α : Type} (lt : α → α → Bool) (irr : ∀ x, lt x x = false) : ∀ (zs : List α), zs.Pairwise (fun x y => lt x y = true ∧ lt y x = false) → ∀ (j : Nat) (z : α), zs[j]? = some z → zs.countP (fun y => lt y z) = j
  | [], _, j, z, h => by simp at h
  | a :: r, p, 0, z, h => by
    simp at h; subst h
    rw [List.pairwise_cons] at p
    rw [List.countP_cons, irr]
    have : r.countP (fun y => lt y a) = 0 := List.countP_eq_zero.mpr fun y hy => by rw [(p.1 y hy).2]; decide
    rw [this]; rfl
  | a :: r, p, j + 1, z, h => by
    rw [List.pairwise_cons] at p
    have h2 : r[j]? = some z := by simpa using h
    rw [List.countP_cons, countP_at lt irr r p.2 j z h2, (p.1 z (List.mem_of_getElem? h2)).1]
    rfl
def keyN (ws : List Int) (t : Nat) : Int × Int := (-(ws.getD t 0), -(t : Int))
theorem keyN_nodup (ws : List Int) (n : Nat) : ((List.range n).map (keyN ws)).Nodup := by
  rw [List.nodup_iff_pairwise_ne, List.pairwise_map]
  refine List.Pairwise.imp ?_ (List.nodup_iff_pairwise_ne.mp List.nodup_range)
  intro a b h e
  unfold keyN at e
  have := (Prod.mk.inj e).2
  omega
theorem idx_rk (ws : List Int) (ks : List (Int × Int)) (pm : ks.Perm ((List.range ws.length).map (keyN ws))) (srt : ks.Pairwise fun x y => SrtO.lexB y x = false) (i : Nat) (hi : i < ws.length) :
    ks[rk ws i]? = some (keyN ws i) ∧ ∀ (m : Nat) z, m < rk ws i → ks[m]? = some z → z ≠ keyN ws i := by
  have nd : ks.Nodup := pm.nodup_iff.mpr (keyN_nodup ws _)
  have mem : keyN ws i ∈ ks := pm.mem_iff.mpr (List.mem_map.mpr ⟨i, List.mem_range.mpr hi, rfl⟩)
  obtain ⟨j, hj⟩ := List.mem_iff_getElem?.mp mem
  have strict : ks.Pairwise fun x y => SrtO.lexB x y = true ∧ SrtO.lexB y x = false := by
    refine List.Pairwise.imp ?_ (List.pairwise_and_iff.mpr ⟨srt, List.nodup_iff_pairwise_ne.mp nd⟩)
    rintro ⟨a, b⟩ ⟨c, d⟩ ⟨h1, h2⟩
    refine ⟨SrtO.lexB_iff.mpr ?_, h1⟩
    have h3 := SrtO.lexB_no.mp h1
    simp only [ne_eq, Prod.mk.injEq, not_and] at h2 h3 ⊢
    omega
  have irr : ∀ x, SrtO.lexB x x = false := fun x => SrtO.lexB_no.mpr (by omega)
  have cnt := countP_at SrtO.lexB irr ks strict j _ hj
  have e : j = rk ws i := by
    rw [← cnt, pm.countP_eq, List.countP_map]
    rfl
  refine ⟨e ▸ hj, fun m z hm hz ez => ?_⟩
  subst ez
  have := (List.getElem?_inj (i := m) (j := j) (List.getElem?_eq_some_iff.mp hz).1 nd).mp (hz.trans hj.symm)
  omega
/-- a task of the program: a tuple whose item 3 is the deadline -/
def TaskW (K : PySem.W.Frag) (H : Hp) (v : V) (w : Int) : Prop := ∃ (t : Addr) (ys : List V), v = .ref t ∧ SqT K H t ys ∧ atI ys 3 = some (.int w)
theorem TaskW.same {K : PySem.W.Frag} {H H' : Hp} {v : V} {w : Int} (h : TaskW K H v w) (s : Same H H') : TaskW K H' v w := by
  obtain ⟨t, ys, e, a, b⟩ := h
  exact ⟨t, ys, e, s.seqT a, b⟩
/-- a program as far as the numbers go -/
structure ProgW (K : PySem.W.Frag) (H : Hp) (t : Addr) (ws : List Int) (m : Nat) : Prop where
  ex : ∃ (xs : List V) (L I : Addr) (ts is : List V), SqT K H t xs ∧ atI xs 4 = some (.ref L) ∧ atI xs 5 = some (.ref I) ∧ SqL K H L ts ∧ SqL K H I is ∧ is.length = m ∧ ts.length = ws.length ∧ (∀ k v, ts[k]? = some v → TaskW K H v (ws.getD k 0))
  small : ws.length ≤ 1000 ∧ m ≤ 1000
/-- a pair of ints, by the heap -/
def keyOf (H : Hp) (v : V) : Int × Int := match v with
  | .ref t => match H t with
    | some (.tup [.int a, .int b]) => (a, b)
    | _ => (0, 0)
  | _ => (0, 0)
theorem keyOf_at {H : Hp} {t : Addr} {a b : Int} (h : H t = some (.tup [.int a, .int b])) : keyOf H (.ref t) = (a, b) := by
  unfold keyOf
  simp only [h]
section
variable {P : Program} {w : World} {K : PySem.W.Frag} {mg : Str → Option Value} {base : Heap}
def sp_numbers (K : PySem.W.Frag) : Sp := fun vs H Q _ => ∃ (t : Addr) (ws : List Int) (m : Nat), vs = [.ref t] ∧ ProgW K H t ws m ∧ ∀ (H' : Hp) (p : Addr), Same H H' → H p = none → H' p = some (.lst ((numsOf ws m).map V.int)) → Q (.ref p) H'
theorem ok_numbers (T : Top K mg) : FnOk P w K mg base CX0 1 T.a_numbers T.d_numbers ["program"]  (sp_numbers K) := by
  refine T.F_numbers.ok sc_numbers (fun vs H Q E h => ?_) (fun cdv A outer s H vs Q E hr h => ?_)
  · obtain ⟨_, _, _, rfl, _⟩ := h
    rfl
  · obtain ⟨t, ws, m, rfl, ⟨⟨xs, L, I, ts, is, hx, h4, h5, hL, hI, lI, lT, hT⟩, sm1, sm2⟩, q⟩ := h
    refine ⟨_, (pss_cons (ps_set (i := 1) sc_numbers.nd rfl (by first | exact Or.inl rfl | exact Or.inr rfl) (pe_ix ix_tup (pv 0) pe_int (fun _ _ => rfl)))
  (pss_cons (ps_set (i := 2) sc_numbers.nd rfl (by first | exact Or.inl rfl | exact Or.inr rfl) (pe_callB cr_sortedPO (by rfl) T.m_sorted (by decide +kernel) (pa_cons (pe_lc (own := [("t", 3), ("task", 4)]) (g := (gTup K 2 (gCons (gName 3) (gCons (gName 4) gNil)))) (tt := tYes) rfl sc_numbers.nd (pi_enum (by rfl) T.m_enumerate (pa_cons (pv 1) pa_nil)) (blkOk_by (N := ["program", "tasks", "rows", "t", "task", "by_tasks", "i"]) (sc := defScope s_numbers) (by decide +kernel)) (fun _ _ _ _ _ => (pg_tup rfl (pgs_cons (pg_name (i := 3) sc_numbers.nd rfl (Or.inl rfl)) (pgs_cons (pg_name (i := 4) sc_numbers.nd rfl (Or.inl rfl)) pgs_nil)))) (fun _ _ _ _ _ => pts_nil) (fun _ _ _ _ _ => (pe_tup (pa_cons (pe_un un_neg (pe_ix (r := rIxT K) ix_tup (pv 4) pe_int (fun _ _ => rfl))) (pa_cons (pe_un un_neg (pv 3)) pa_nil))))) pa_nil)))
  (pss_cons (ps_setLc (i := 5) (own := [("t", 3), ("task", 4)]) (g := (gTup K 2 (gCons (gName 3) (gCons (gName 4) gNil)))) (tt := tYes) rfl sc_numbers.nd rfl rfl (sw_true rfl rfl rfl (by decide +kernel)) (pi_enum (by rfl) T.m_enumerate (pa_cons (pv 1) pa_nil)) (blkOk_by (N := ["program", "tasks", "rows", "t", "task", "by_tasks", "i"]) (sc := defScope s_numbers) (by decide +kernel)) (fun _ _ _ _ _ => (pg_tup rfl (pgs_cons (pg_name (i := 3) sc_numbers.nd rfl (Or.inl rfl)) (pgs_cons (pg_name (i := 4) sc_numbers.nd rfl (Or.inl rfl)) pgs_nil)))) (fun _ _ _ _ _ => pts_nil) (fun _ _ _ _ _ => (pe_op op_add (show PE _ _ (tBM K "list" (rIndexD K) _ _) from pe_bm PySem.F.plainAttrs_list PySem.F.slot_list_index PySem.F.type_list_index (mt_indexD (Rd.room65 hr)) (pv 2) (pa_cons (pe_tup (pa_cons (pe_un un_neg (pe_ix (r := rIxT K) ix_tup (pv 4) pe_int (fun _ _ => rfl))) (pa_cons (pe_un un_neg (pv 3)) pa_nil))) pa_nil)) pe_int)))
  (pss_one (ps_ret (pe_op op_cat (pv 5) (pe_lc (own := [("i", 6)]) (g := gName 6) (tt := tYes) rfl sc_numbers.nd (pi_range1 (by rfl) T.m_range (pa_cons (pe_callB call_len_seq (by rfl) T.m_len PySem.boot_len (pa_cons (pe_ix ix_tup (pv 0) pe_int (fun _ _ => rfl)) pa_nil)) pa_nil)) (blkOk_by (N := ["program", "tasks", "rows", "t", "task", "by_tasks", "i"]) (sc := defScope s_numbers) (by decide +kernel)) (fun _ _ _ _ _ => pg_name (i := 6) sc_numbers.nd rfl (Or.inl rfl)) (fun _ _ _ _ _ => pts_nil) (fun _ _ _ _ _ => (pe_op op_add (pe_gi (by rfl) T.c_FIRST_INTERRUPT) (pv 6)))))))))), ?_⟩
    rw [show ∀ a0 : V, L2.start ["program", "tasks", "rows", "t", "task", "by_tasks", "i"] [a0] = [some a0, none, none, none, none, none, none] from fun _ => rfl]
    walk_at "my rd"
    refine Rd.ixTq hx h4 ?_
    walk_at "my rd"
    refine fun D nD => Rd.lc_rel (walk_enum (xs := ts)) (fun i v H' => ∃ a, v = .ref a ∧ a ≠ D ∧ H' a = some (.tup [.int (-(ws.getD i 0)), .int (-(i : Int))])) nD (by omega)
      (fun i v H1 H2 h b => ?_) (fun H1 b => (b.to nD).seq hL) (fun i x H1 H2 Kt hi b hDl y kt => ?_) (fun H1 ys ly hy sm hD => ?_)
    · obtain ⟨a, e, n, h⟩ := h
      exact ⟨a, e, n, b _ _ n h⟩
    · obtain ⟨T, x', y', rfl, nT, rfl, e1, e2⟩ := y
      cases e1
      obtain ⟨t1, ys1, rfl, ht0, hw⟩ := (hT i y' e2).same (b.to nD)
      have ht1 := (same_new (o := .tup [.int (i : Nat), .ref t1]) nT).seqT ht0
      simp only [List.map_cons, List.map_nil, L2.wipe, List.set_cons_succ, List.set_cons_zero]
      walk_at "my rd"
      refine ⟨rfl, ?_⟩
      walk_at "my rd"
      refine Rd.ixTq ht1 hw ?_
      walk_at "my rd"
      intro p np
      obtain ⟨xsD, hxD⟩ := hDl
      refine kt _ _ ⟨p, rfl, fun z => ?_, upd_same⟩ ((same_new nT).off (Same.free (same_new nT) np))
      rw [z] at np
      rw [same_new nT _ _ hxD] at np
      cases np
    · walk_at "my rd"
      have keys : ∀ i v, ys[i]? = some v → ∃ a, v = .ref a ∧ H1 a = some (.tup [.int (keyOf H1 v).1, .int (keyOf H1 v).2]) ∧ keyOf H1 v = keyN ws i := fun i v h => by
        obtain ⟨a, rfl, _, h2⟩ := hy i v h
        exact ⟨a, rfl, by rw [keyOf_at h2]; exact h2, keyOf_at h2⟩
      refine ⟨D, ys, keyOf H1, rfl, SqL.of hD, fun x mx => ?_, fun zs p srt stb np => ?_⟩
      · obtain ⟨i, hi⟩ := List.mem_iff_getElem?.mp mx
        obtain ⟨a, e, h, _⟩ := keys i x hi
        exact ⟨a, e, h⟩
      have lz : zs.length = ws.length := by rw [stb.perm.length_eq, ly, lT]
      have pm : (zs.map (keyOf H1)).Perm ((List.range ws.length).map (keyN ws)) := by
        refine (stb.perm.map _).trans (List.Perm.of_eq ?_)
        refine List.ext_getElem? fun i => ?_
        rw [List.getElem?_map, List.getElem?_map]
        by_cases hi : i < ws.length
        · obtain ⟨v, hv⟩ : ∃ v, ys[i]? = some v := ⟨_, List.getElem?_eq_getElem (by omega)⟩
          obtain ⟨_, _, _, e⟩ := keys i v hv
          rw [hv, List.getElem?_range hi]
          exact congrArg some e
        · rw [List.getElem?_eq_none (by omega), List.getElem?_eq_none (by rw [List.length_range]; omega)]
          rfl
      have srt2 : (zs.map (keyOf H1)).Pairwise fun x y => SrtO.lexB y x = false := by
        rw [List.pairwise_map]; exact srt
      have hz : ∀ v ∈ zs, ∃ a, v = .ref a ∧ H1 a = some (.tup [.int (keyOf H1 v).1, .int (keyOf H1 v).2]) := fun v mv => by
        obtain ⟨i, hi⟩ := List.mem_iff_getElem?.mp (stb.perm.mem_iff.mp mv)
        obtain ⟨a, e, h, _⟩ := keys i v hi
        exact ⟨a, e, h⟩
      have sm2 : Same H (upd H1 p (.lst zs)) := sm.off (sm.free np)
      have hL2 := sm2.seq hL
      walk_at "my rd"
      refine fun D2 nD2 => Rd.lc_rel (walk_enum (xs := ts)) (fun i v _ => v = .int (((rk ws i : Nat) : Int) + 1)) nD2 (by omega)
        (fun i v _ _ h _ => h) (fun H2 b => (sm2.trans (b.to nD2)).seq hL) (fun i x H2 H3 Kt hi b hDl y kt => ?_) (fun H2 ns ln hn sn hD2 => ?_)
      · obtain ⟨T2, x', y', rfl, nT2, rfl, e1, e2⟩ := y
        cases e1
        have hiw : i < ws.length := by omega
        have s2 := (sm2.trans (b.to nD2)).trans (same_new (o := .tup [.int (i : Nat), y']) nT2)
        obtain ⟨t1, ys1, rfl, ht1, hw⟩ := (hT i y' e2).same s2
        simp only [List.map_cons, List.map_nil, L2.wipe, List.set_cons_succ, List.set_cons_zero]
        walk_at "my rd"
        refine ⟨rfl, ?_⟩
        have hp2 : (upd H2 T2 (.tup [.int (i : Nat), .ref t1])) p = some (.lst zs) := same_new nT2 _ _ ((b.to nD2) _ _ upd_same)
        walk_at "my rd"
        refine Rd.ixTq ht1 hw ?_
        walk_at "my rd"
        intro q nq
        have hz2 : ∀ v ∈ zs, ∃ a, v = .ref a ∧ (upd (upd H2 T2 (.tup [.int (i : Nat), .ref t1])) q (.tup [.int (-(ws.getD i 0)), .int (-(i : Int))])) a = some (.tup [.int (keyOf H1 v).1, .int (keyOf H1 v).2]) := fun v mv => by
          obtain ⟨a, e, h⟩ := hz v mv
          exact ⟨a, e, same_new nq _ _ (same_new nT2 _ _ ((b.to nD2) _ _ (same_new np _ _ h)))⟩
        obtain ⟨g1, g2⟩ := idx_rk ws (zs.map (keyOf H1)) pm srt2 i hiw
        have eT : ∀ (a b c d : Int), PyData.eqv (.tuple [.int a, .int b]) (.tuple [.int c, .int d]) = decide ((a, b) = (c, d)) := fun a b c d => by
          have := eqv_intsT [a, b] [c, d]
          simp only [List.map_cons, List.map_nil] at this
          rw [this]
          by_cases h : a = c <;> by_cases h2 : b = d <;> simp [h, h2]
        obtain ⟨z, hzz, ez⟩ : ∃ z, zs[rk ws i]? = some z ∧ keyOf H1 z = keyN ws i := by
          rw [List.getElem?_map] at g1
          cases h : zs[rk ws i]? with
          | none => rw [h] at g1; cases g1
          | some z => rw [h] at g1; exact ⟨z, rfl, Option.some.inj g1⟩
        refine ⟨p, .ref q, .tuple [.int (-(ws.getD i 0)), .int (-(i : Int))], zs.map (fun v => .tuple [.int (keyOf H1 v).1, .int (keyOf H1 v).2]), rk ws i, .tuple [.int (keyOf H1 z).1, .int (keyOf H1 z).2], rfl, rfl,
          .lst (SqL.of (same_new nq _ _ hp2)) (dpAll_map _ fun v mv => ?_), .tup (SqT.of upd_same) (.cons (.int _) (.cons (.int _) .nil)), ?_, ?_, ?_, ?_, fun m2 z2 hm hz3 => ?_, ?_⟩
        · obtain ⟨a, rfl, h⟩ := hz2 v mv
          exact .tup (SqT.of h) (.cons (.int _) (.cons (.int _) .nil))
        · refine (dok_list (n := 1) fun d md => ?_).shaped (by decide)
          obtain ⟨v, _, rfl⟩ := List.mem_map.mp md
          exact dok_tup (n := 0) (by simp [dok_int])
        · exact (dok_tup (n := 0) (by simp [dok_int])).shaped (by decide)
        · rw [List.getElem?_map, hzz]; rfl
        · rw [eT, ez]; simp [keyN]
        · rw [List.getElem?_map] at hz3
          cases h : zs[m2]? with
          | none => rw [h] at hz3; cases hz3
          | some z4 =>
            rw [h] at hz3
            cases hz3
            rw [eT]
            refine decide_eq_false fun e => g2 m2 (keyOf H1 z4) hm ?_ e
            rw [List.getElem?_map, h]; rfl
        · walk_at "my rd"
          exact kt _ _ rfl (((same_new nT2).off (Same.free (same_new nT2) nq)))
      · have sm3 := sm2.trans sn
        have hI3 := sm3.seq hI
        have hx3 := sm3.seqT hx
        walk_at "my rd"
        refine Rd.ixTq hx3 h5 ?_
        walk_at "my rd"
        refine ⟨by omega, by omega, fun D3 nD3 => Rd.lc_rel walk_range (fun i v _ => v = .int (9 + (i : Int))) nD3 (by omega) (fun i v _ _ h _ => h) (fun _ _ => trivial) (fun i x H3 H4 Kt hi b hDl y kt => ?_) (fun H3 ms lm hm sm4 hD3 => ?_)⟩
        · obtain ⟨rfl, rfl⟩ := y
          simp only [List.map_cons, List.map_nil, L2.wipe, List.set_cons_succ, List.set_cons_zero]
          walk_at "my rd"
          refine ⟨rfl, ?_⟩
          walk_at "my rd"
          exact kt _ _ (by rw [Int.zero_add]) (Same.refl _)
        · have hn3 := sm4 _ _ hD2
          have e1 : ns = ((List.range ws.length).map fun t => ((rk ws t : Nat) : Int) + 1).map V.int := by
            refine List.ext_getElem? fun i => ?_
            rw [List.map_map, List.getElem?_map]
            by_cases hi : i < ws.length
            · obtain ⟨v, hv⟩ : ∃ v, ns[i]? = some v := ⟨_, List.getElem?_eq_getElem (by omega)⟩
              rw [hv, List.getElem?_range hi, hn i v hv]
              rfl
            · rw [List.getElem?_eq_none (by omega), List.getElem?_eq_none (by rw [List.length_range]; omega)]
              rfl
          have e2 : ms = ((List.range m).map fun (i : Nat) => (9 : Int) + (i : Int)).map V.int := by
            have lm2 : ms.length = m := by omega
            refine List.ext_getElem? fun i => ?_
            rw [List.map_map, List.getElem?_map]
            by_cases hi : i < m
            · obtain ⟨v, hv⟩ : ∃ v, ms[i]? = some v := ⟨_, List.getElem?_eq_getElem (by omega)⟩
              rw [hv, List.getElem?_range hi, hm i v hv]
              rfl
            · rw [List.getElem?_eq_none (by omega), List.getElem?_eq_none (by rw [List.length_range]; omega)]
              rfl
          refine ⟨D2, D3, ns, ms, rfl, rfl, hn3, hD3, ?_, fun r nr => q _ r ((sm3.trans sm4).trans (same_new nr)) ((sm3.trans sm4).free nr) ?_⟩
          · exact Rd.sz (by omega)
          · rw [upd_same, e1, e2, numsOf, List.map_append]
theorem numsOf_len (ws : List Int) (m : Nat) : (numsOf ws m).length = ws.length + m := by simp [numsOf]
end

/-! ### deadbeat.orders: ceilings -/
def Meet (u r : List Int) : Prop := ∃ y ∈ u, y ∈ r
def Ceil (nums : List Int) (us : List (List Int)) (r : List Int) (c : Int) : Prop :=
  (∀ (i : Nat) x u, nums[i]? = some x → us[i]? = some u → Meet u r → x ≤ c) ∧ ((c = 0 ∧ ∀ (i : Nat) u, us[i]? = some u → i < nums.length → ¬ Meet u r) ∨ ∃ (i : Nat) (u : List Int), nums[i]? = some c ∧ us[i]? = some u ∧ Meet u r)
theorem taskW_of {K : PySem.W.Frag} {H : Hp} {v : V} {t : Task} (h : Dp K H v t.d) : TaskW K H v t.within := by
  obtain ⟨t5, xs, rfl, hx5, a5⟩ := dpT h
  obtain ⟨u0, g0, rfl, _, a6⟩ := dp1 a5
  obtain ⟨u1, g0, rfl, _, a7⟩ := dp1 a6
  obtain ⟨u2, g0, rfl, _, a8⟩ := dp1 a7
  obtain ⟨u3, g0, rfl, d3, a9⟩ := dp1 a8
  obtain ⟨u4, g0, rfl, _, a10⟩ := dp1 a9
  obtain ⟨u5, g0, rfl, d5, a11⟩ := dp1 a10
  cases dp0 a11
  cases dpI d3
  exact ⟨t5, _, rfl, hx5, rfl⟩
theorem PgAt.w {K : PySem.W.Frag} {H : Hp} {t O T I : Addr} {os ts is : List V} {p : Pg} (h : PgAt K H t O T I os ts is p) (pw : PgW p) : ProgW K H t (p.tasks.map Task.within) p.irs.length := by
  obtain ⟨w0, w1, w2, ht⟩ := h.ex
  obtain ⟨f1, f2, f3⟩ := pw.few
  refine ⟨⟨_, T, I, ts, is, ht, rfl, rfl, h.hT, h.hI, by rw [dps_len h.aI, List.length_map], by rw [dps_len h.aT, List.length_map, List.length_map], fun k v hv => ?_⟩, by rw [List.length_map]; omega, by omega⟩
  obtain ⟨d, hd, dd⟩ := dp_at' h.aT hv
  rw [List.getElem?_map] at hd
  cases z : p.tasks[k]? with
  | none => rw [z] at hd; cases hd
  | some s =>
    rw [z] at hd; cases hd
    rw [List.getD_eq_getElem?_getD, List.getElem?_map, z]
    exact taskW_of dd
theorem numsOf_len' (ws : List Int) (m : Nat) : (numsOf ws m).length = ws.length + m := by simp [numsOf]
def ovl (us : List (List Int)) (r : List Int) (i : Nat) : Bool := (us.getD i []).any fun y => decide (y ∈ r)
def pick (nums : List Int) (us : List (List Int)) (r : List Int) (n : Nat) : List Int := ((List.range n).filter (ovl us r)).map fun i => nums.getD i 0
theorem pick_succ (nums : List Int) (us : List (List Int)) (r : List Int) (n : Nat) : pick nums us r (n + 1) = if ovl us r n = true then pick nums us r n ++ [nums.getD n 0] else pick nums us r n := by
  unfold pick
  rw [List.range_succ, List.filter_append, List.map_append]
  by_cases h : ovl us r n = true
  · rw [if_pos h, List.filter_cons_of_pos h]; rfl
  · rw [if_neg h, List.filter_cons_of_neg h]; simp
theorem pick_len (nums : List Int) (us : List (List Int)) (r : List Int) (n : Nat) : (pick nums us r n).length ≤ n := by
  unfold pick
  rw [List.length_map]
  have := List.length_filter_le (ovl us r) (List.range n)
  rw [List.length_range] at this
  exact this
theorem ovl_meet {us : List (List Int)} {r u : List Int} {i : Nat} (h : us[i]? = some u) : ovl us r i = true ↔ Meet u r := by
  unfold ovl Meet
  rw [List.getD_eq_getElem?_getD, h, List.any_eq_true]
  constructor
  · rintro ⟨y, m, e⟩; exact ⟨y, m, of_decide_eq_true e⟩
  · rintro ⟨y, m, e⟩; exact ⟨y, m, decide_eq_true e⟩
theorem ceil_none {nums : List Int} {us : List (List Int)} {r : List Int} (e : nums.length = us.length) (h : pick nums us r us.length = []) : Ceil nums us r 0 := by
  have no : ∀ (i : Nat) u, us[i]? = some u → ¬ Meet u r := fun i u hu m => by
    have hi := (List.getElem?_eq_some_iff.mp hu).1
    have : nums.getD i 0 ∈ pick nums us r us.length := List.mem_map.mpr ⟨i, List.mem_filter.mpr ⟨List.mem_range.mpr hi, (ovl_meet hu).mpr m⟩, rfl⟩
    rw [h] at this; cases this
  exact ⟨fun i x u _ hu m => absurd m (no i u hu), .inl ⟨rfl, fun i u hu _ => no i u hu⟩⟩
theorem ceil_max {nums : List Int} {us : List (List Int)} {r : List Int} {c : Int} (e : nums.length = us.length) (m : c ∈ pick nums us r us.length) (h : ∀ y ∈ pick nums us r us.length, y ≤ c) : Ceil nums us r c := by
  refine ⟨fun i x u hx hu mt => ?_, .inr ?_⟩
  · have hi := (List.getElem?_eq_some_iff.mp hu).1
    refine h x (List.mem_map.mpr ⟨i, List.mem_filter.mpr ⟨List.mem_range.mpr hi, (ovl_meet hu).mpr mt⟩, ?_⟩)
    rw [List.getD_eq_getElem?_getD, hx]; rfl
  · obtain ⟨i, m1, e1⟩ := List.mem_map.mp m
    obtain ⟨m2, m3⟩ := List.mem_filter.mp m1
    have hi := List.mem_range.mp m2
    have hu : us[i]? = some us[i] := List.getElem?_eq_getElem hi
    refine ⟨i, us[i], ?_, hu, (ovl_meet hu).mp m3⟩
    have hx : nums[i]? = some nums[i] := List.getElem?_eq_getElem (by rw [e]; exact hi)
    rw [List.getD_eq_getElem?_getD, hx] at e1
    rw [hx]; exact congrArg some e1
def Pg.nums (p : Pg) : List Int := numsOf (p.tasks.map Task.within) p.irs.length
section
variable {P : Program} {w : World} {K : PySem.W.Frag} {mg : Str → Option Value} {base : Heap}
def sp_ceilings (K : PySem.W.Frag) : Sp := fun vs H Q _ => ∃ (t O T I : Addr) (os ts is : List V) (p : Pg), vs = [.ref t] ∧ PgAt K H t O T I os ts is p ∧ PgW p ∧
  ∀ (C : Addr) (cs : List Int) (rows us : List (List Int)) (H' : Hp), Same H H' → H C = none → H' C = some (.lst (cs.map V.int)) → cs.length = p.obs.length → rows.length = p.obs.length → us.length = p.uses.length → (∀ k r, rows[k]? = some r → IsRow p.E k r) → (∀ (k : Nat) nms u, p.uses[k]? = some nms → us[k]? = some u → IsUse p nms u) →
    (∀ (k : Nat) c r, cs[k]? = some c → rows[k]? = some r → Ceil p.nums us r c) → Q (.ref C) H'
theorem ok_ceilings (T : Top K mg) : FnOk P w K mg base CX0 25 T.a_ceilings T.d_ceilings ["program"]  (sp_ceilings K) := by
  refine T.F_ceilings.ok sc_ceilings (fun vs H Q E h => ?_) (fun cdv A outer s H vs Q E hr h => ?_)
  · obtain ⟨_, _, _, _, _, _, _, _, rfl, _⟩ := h
    rfl
  · obtain ⟨t, O, Ta, I, os, ts, is, p, rfl, pa, pw, q⟩ := h
    refine ⟨_, (pss_cons (ps_set (i := 1) sc_ceilings.nd rfl (by first | exact Or.inl rfl | exact Or.inr rfl) (pe_listZip rfl (by rfl) T.m_list (by decide +kernel) (by rfl) T.m_zip (pa_cons (pe_call (ok_numbers T) (hr.mono (by decide)) (by rfl) T.g_numbers T.F_numbers.kp T.b_numbers .nil pass0 (pa_cons (pv 0) pa_nil)) (pa_cons (pe_call (ok_used T) (hr.mono (by decide)) (by rfl) T.g_used T.F_used.kp T.b_used .nil pass0 (pa_cons (pv 0) pa_nil)) pa_nil))))
  (pss_cons (ps_set (i := 2) sc_ceilings.nd rfl (by first | exact Or.inl rfl | exact Or.inr rfl) (pe_lst pa_nil))
  (pss_cons (ps_for PassesOwn.never rfl (pi_list (pe_call (ok_reached T) (hr.mono (by decide)) (by rfl) T.g_reached T.F_reached.kp T.b_reached .nil pass0 (pa_cons (pv 0) pa_nil))) (pg_name (i := 3) sc_ceilings.nd rfl (by first | exact Or.inl rfl | exact Or.inr rfl))
  (pss_one (ps_expr (pe_bm PySem.F.plainAttrs_list PySem.F.slot_list_append PySem.F.type_list_append mt_append (pv 2) (pa_cons (pe_callBK (cr_maxDf rfl (Rd.room65 hr)) (by rfl) T.m_max (by decide +kernel) (pa_cons (pe_lc (own := [("number", 4), ("row", 5)]) (g := (gTup K 2 (gCons (gName 4) (gCons (gName 5) gNil)))) rfl sc_ceilings.nd (pi_list (pv 1)) (blkOk_by (N := ["program", "users", "found", "indexes", "number", "row"]) (sc := defScope s_ceilings) (by decide +kernel)) (fun _ _ _ _ _ => (pg_tup rfl (pgs_cons (pg_name (i := 4) sc_ceilings.nd rfl (Or.inl rfl)) (pgs_cons (pg_name (i := 5) sc_ceilings.nd rfl (Or.inl rfl)) pgs_nil)))) (fun _ _ _ _ _ => pts_one (pt_val (pe_call (ok__overlap T) (hr.mono (by decide)) (by rfl) T.g__overlap T.F__overlap.kp T.b__overlap .nil pass0 (pa_cons (pv 5) (pa_cons (pv 3) pa_nil))))) (fun _ _ _ _ _ => (pv 4))) pa_nil) (pk_cons pe_int pk_nil)) pa_nil)))))
  (pss_one (ps_ret (pv 2)))))), ?_⟩
    obtain ⟨f1, f2, f3⟩ := pw.few
    rw [show ∀ a0 : V, L2.start ["program", "users", "found", "indexes", "number", "row"] [a0] = [some a0, none, none, none, none, none] from fun _ => rfl]
    walk_at "my rn"
    refine ⟨t, _, _, rfl, pa.w pw, fun H1 N s1 nN hN => ?_⟩
    walk_at "my rn"
    refine ⟨t, O, Ta, I, os, ts, is, p, rfl, pa.same s1, pw, fun U uls us H2 s2 fu lu iu => ?_⟩
    have hN2 := s2 _ _ hN
    have hU2 := fu.at_
    have lnu : p.nums.length = us.length := by rw [lu]; unfold Pg.nums Pg.uses; rw [numsOf_len']; simp
    have fewU : us.length ≤ 120 := by rw [lu]; unfold Pg.uses; simp; omega
    walk_at "my rn"
    refine Rd.lz (SqL.of hN2) (SqL.of hU2) (by rw [List.length_map, List.length_map, fu.len]; exact lnu) fun Z zs H3 s3 nZ hZ lz hz => ?_
    rw [List.length_map] at lz
    walk_at "my rn"
    intro F H4 nF s4 hF
    have s14 := s1.trans (s2.trans (s3.trans s4))
    walk_at "my rn"
    refine ⟨t, O, Ta, I, os, ts, is, p, rfl, pa.same s14, pw, fun R rls rows H5 s5 fr lr ir => ?_⟩
    have hR5 := fr.at_
    have hF5 := s5 _ _ hF
    have nRF : R ≠ F := fun z => by have := fr.newF; rw [z, hF] at this; cases this
    have hZ5 := s5 _ _ (s4 _ _ hZ)
    have nZF : Z ≠ F := fun z => by rw [← z, hZ] at nF; cases nF
    -- what stands since H4 is left alone
    walk_at "my rn"
    refine for_it (walk_list (xs := rls.map V.ref)) (fun i σ H' => ∃ (cs : List Int) (y3 y4 y5 : Option V), σ = [some (.ref t), some (.ref Z), some (.ref F), y3, y4, y5] ∧ Rd.But F H5 H' ∧ H' F = some (.lst (cs.map V.int)) ∧ cs.length = i ∧ ∀ (k : Nat) c r, cs[k]? = some c → rows[k]? = some r → Ceil p.nums us r c)
      ⟨[], none, none, none, rfl, Rd.But.refl, hF5, rfl, by simp⟩ (fun i σ H' _ ⟨_, _, _, _, _, b, _⟩ => SqL.of (b _ _ nRF hR5)) ?_ ?_
    · rintro i x σ H6' H6 hi ⟨cs, y3, y4, y5, rfl, b6, hF6, lc, hc⟩ ⟨rfl, hx⟩
      obtain ⟨a, r, g1, g2, g3⟩ := fr.get (k := i) (by rw [← fr.len]; simpa using hi)
      have eX : x = .ref a := by rw [List.getElem?_map, g1] at hx; exact (Option.some.inj hx).symm
      subst eX
      have aF : a ≠ F := fun z => by
        have := (fr.new a (List.mem_of_getElem? g1)).1
        rw [z, hF] at this; cases this
      have ha6 := b6 _ _ aF g3
      have hZ6 := b6 _ _ nZF hZ5
      have lr1 : r.length ≤ 60 := by
        have hk : i < p.obs.length := by rw [← lr]; exact (List.getElem?_eq_some_iff.mp g2).1
        have := strict_len r 0 p.obs.length (ir i r g2).1 (fun x m => by
          obtain ⟨j, e1, e2⟩ := ((ir i r g2).2 x).mp m
          have := reach_lt pw e2 hk
          omega) (by omega)
        omega
      have old : ∀ b o, H3 b = some o → H6 b = some o := fun b o e => b6 b o (fun z => by rw [z, nF] at e; cases e) (s5 _ _ (s4 _ _ e))
      walk_at "my rn"
      refine Rd.ckw ?_
      walk_at "my rn"
      intro D nD
      have nDs : ∀ {b : Addr} {o : HO}, H6 b = some o → b ≠ D := fun e z => by rw [z, nD] at e; cases e
      refine lc_it (walk_list (xs := zs.map V.ref)) (fun j H' => Rd.But D H6 H' ∧ H' D = some (.lst ((pick p.nums us r j).map V.int))) ⟨Rd.But.at_, upd_same⟩ (fun j H' _ b => (b.1.to nD).seq (SqL.of hZ6)) (fun j x H7' H7 hj ⟨b7, hD7⟩ ⟨e7, hx7⟩ => ?_) (fun H7 ⟨b7, hD7⟩ => ?_)
      · cases e7
        obtain ⟨tz, htz, rfl⟩ : ∃ tz, zs[j]? = some tz ∧ x = .ref tz := by
          rw [List.getElem?_map] at hx7
          cases z : zs[j]? with
          | none => rw [z] at hx7; cases hx7
          | some tz => rw [z] at hx7; exact ⟨tz, rfl, (Option.some.inj hx7).symm⟩
        obtain ⟨xn, yu, k1, k2, k3⟩ := hz j tz htz
        have hju : j < us.length := by
          have := (List.getElem?_eq_some_iff.mp htz).1
          have e : (numsOf (p.tasks.map Task.within) p.irs.length).length = us.length := lnu
          omega
        obtain ⟨ua, u, q1, q2, q3⟩ := fu.get (k := j) hju
        rw [List.getElem?_map, q1] at k2
        cases k2
        obtain ⟨nn, kn, rfl⟩ : ∃ nn, p.nums[j]? = some nn ∧ xn = .int nn := by
          rw [List.getElem?_map] at k1
          cases z : (numsOf (p.tasks.map Task.within) p.irs.length)[j]? with
          | none => rw [z] at k1; cases k1
          | some nn => rw [z] at k1; exact ⟨nn, z, (Option.some.inj k1).symm⟩
        have ht6 := old _ _ k3
        have hu6 := old _ _ (s3 _ _ q3)
        have ht7 := b7 _ _ (nDs ht6) ht6
        have hu7 := b7 _ _ (nDs hu6) hu6
        have ha7 := b7 _ _ (nDs ha6) ha6
        have lu1 : u.length ≤ 60 := by
          obtain ⟨nms, hn⟩ : ∃ nms, p.uses[j]? = some nms := ⟨_, List.getElem?_eq_getElem (by rw [← lu]; exact hju)⟩
          have iu1 := iu j nms u hn q2
          have := strict_len u 0 p.obs.length iu1.1 (fun x m => by
            obtain ⟨j2, e1, nm, m1, e2⟩ := (iu1.2 x).mp m
            have hnm : nm ∈ p.names := by
              have mu := List.mem_of_getElem? hn
              unfold Pg.uses at mu
              rcases List.mem_append.mp mu with mu | mu
              · obtain ⟨tk, m2, e3⟩ := List.mem_map.mp mu
                exact (pw.body tk m2).1.calls nm (by rw [e3]; exact m1)
              · obtain ⟨tk, m2, e3⟩ := List.mem_map.mp mu
                rw [← e3, List.mem_singleton] at m1
                rw [m1]; exact pw.irs tk m2
            have h1 := (findN_mem hnm).1
            unfold Pg.names at h1
            rw [List.length_map] at h1
            have := reach_lt pw e2 h1
            omega) (by omega)
          omega
        have gd : p.nums.getD j 0 = nn := by rw [List.getD_eq_getElem?_getD, kn]; rfl
        have ov : (u.any fun i => decide (i ∈ r)) = ovl us r j := by unfold ovl; rw [List.getD_eq_getElem?_getD, q2]; rfl
        simp only [List.map_cons, List.map_nil, L2.wipe, List.set_cons_succ, List.set_cons_zero]
        walk_at "my rn"
        refine ⟨rfl, ?_⟩
        walk_at "my rn"
        refine ⟨ua, a, u, r, rfl, SqL.of hu7, SqL.of ha7, by omega, by omega, fun H8 s8 => ?_⟩
        have hD8 := s8 _ _ hD7
        have bb := b7.trans (Rd.But.same s8)
        have pl := pick_len p.nums us r j
        refine ⟨_, rfl, ?_⟩
        refine Rd.ifB (fun c => ?_) (fun c => ?_)
        · rw [ov] at c
          walk_at "my rn"
          refine ⟨_, hD8, Rd.szl (by rw [List.length_map]; omega), bb.trans Rd.But.at_, ?_⟩
          rw [upd_same, pick_succ, if_pos c, gd, List.map_append]; rfl
        · rw [ov] at c
          refine ⟨bb, ?_⟩
          rw [pick_succ, if_neg (by rw [c]; decide)]
          exact hD8
      · have eN : (zs.map V.ref).length = us.length := by
          rw [List.length_map, lz]; exact lnu
        rw [eN] at hD7
        have s67 := b7.to nD
        have hF7 := s67 _ _ hF6
        have fin : ∀ c : Int, Ceil p.nums us r c → ∃ (cs' : List Int) (y3 y4' y5' : Option V), [some (.ref t), some (.ref Z), some (.ref F), some (.ref a), y4, y5] = [some (.ref t), some (.ref Z), some (.ref F), y3, y4', y5'] ∧ Rd.But F H5 (upd H7 F (.lst (cs.map V.int ++ [.int c]))) ∧ (upd H7 F (.lst (cs.map V.int ++ [.int c]))) F = some (.lst (cs'.map V.int)) ∧ cs'.length = i + 1 ∧ ∀ (k : Nat) c r, cs'[k]? = some c → rows[k]? = some r → Ceil p.nums us r c := fun c hcc =>
          ⟨cs ++ [c], _, _, _, rfl, (b6.trans (Rd.But.same s67)).trans Rd.But.at_, by rw [upd_same, List.map_append]; rfl, by simp [lc], fun k c' r' h1 h2 => by
            by_cases hk : k < cs.length
            · rw [List.getElem?_append_left hk] at h1
              exact hc k c' r' h1 h2
            · have hk2 := (List.getElem?_eq_some_iff.mp h1).1
              simp at hk2
              have ek : k = cs.length := by omega
              subst ek
              rw [List.getElem?_append_right (Nat.le_refl _)] at h1
              simp at h1
              subst h1
              rw [lc, g2] at h2; cases h2
              exact hcc⟩
        walk_at "my rn"
        have lcs : cs.length ≤ 1000 := by
          have := hi
          rw [List.length_map, fr.len, lr] at this
          omega
        refine Rd.maxDf hD7 (fun e0 => ?_) (fun m hm hmm => ?_)
        · walk_at "my rn"
          refine Rd.app hF7 (Rd.szl (by rw [List.length_map]; omega)) (fin 0 (ceil_none lnu e0))
        · walk_at "my rn"
          refine Rd.app hF7 (Rd.szl (by rw [List.length_map]; omega)) (fin m (ceil_max lnu hm hmm))
    · rintro σ H6 ⟨cs, y3, y4, y5, rfl, b6, hF6, lc, hc⟩
      rw [List.length_map, fr.len, lr] at lc
      walk_at "my rn"
      exact q F cs rows us H6 (fun a x e => b6 a x (fun z => by rw [z, (s1.trans (s2.trans s3)).free nF] at e; cases e) (s5 _ _ (s14 _ _ e))) ((s1.trans (s2.trans s3)).free nF) hF6 lc lr lu ir iu hc
end

end Mine

set_option Elab.async false
set_option linter.all false
set_option maxRecDepth 100000
set_option maxHeartbeats 1000000

--@@rec _copied _copied_statement

namespace Mine
open PySem PySem.Spec PyProof.Rows L2
local macro_rules | `(tactic| walk_at "my rn") => `(tactic| (repeat (first | with_reducible refine Rd.catQI ?_ | with_reducible refine Rd.revN ?_ | with_reducible refine Rd.lzip ?_ | with_reducible refine Rd.fld ?_ | with_reducible refine Rd.sfld ?_ | with_reducible refine Rd.meth ?_ | with_reducible refine Rd.make ?_ | with_reducible refine Rd.izip ?_ | with_reducible refine Rd.tupN ?_ | with_reducible refine Rd.lstN ?_ | with_reducible refine Rd.cbListOf ?_ | with_reducible refine Rd.cbListOfR ?_ | with_reducible refine Rd.catI ?_ | with_reducible refine Rd.slN ?_ | with_reducible refine Rd.cbSrtI ?_ | with_reducible refine Rd.seq ?_ | with_reducible refine Rd.next ?_ | with_reducible refine Rd.brk ?_ | with_reducible refine Rd.cont ?_ | with_reducible refine Rd.asg ?_ | with_reducible refine Rd.ret ?_ | with_reducible refine Rd.retN ?_ | with_reducible refine Rd.drop ?_ | with_reducible refine Rd.ifs ?_ | with_reducible refine Rd.ife ?_ | with_reducible refine Rd.test ?_ | with_reducible refine Rd.tb_ ?_ | with_reducible refine Rd.bl ?_ | with_reducible refine Rd.bl2 ?_ | with_reducible refine Rd.and_ ?_ | with_reducible refine Rd.or_ ?_ | with_reducible refine Rd.not_ ?_ | with_reducible refine Rd.andV ?_ | with_reducible refine Rd.orV ?_ | with_reducible refine Rd.notV ?_ | with_reducible refine Rd.op ?_ | with_reducible refine Rd.un ?_ | with_reducible refine Rd.I0 ?_ | with_reducible refine Rd.U ?_ | with_reducible refine Rd.ip ?_ | with_reducible refine Rd.c_ ?_ | with_reducible refine Rd.nil ?_ | with_reducible refine Rd.cons ?_ | with_reducible refine Rd.call ?_ | with_reducible refine Rd.cb ?_ | with_reducible refine Rd.bm ?_ | with_reducible refine Rd.bm0 ?_ | with_reducible refine Rd.nopart ?_ | with_reducible refine Rd.part ?_ | with_reducible refine Rd.int1 ?_ | with_reducible refine Rd.ints1 ?_ | with_reducible refine Rd.ints2 ?_ | with_reducible refine Rd.gcons ?_ | with_reducible refine Rd.gnil ?_ | with_reducible refine Rd.sub ?_ | with_reducible refine Rd.isN ?_ | with_reducible refine Rd.chain ?_ | with_reducible refine Rd.rf ?_ | with_reducible refine Rd.tyS ?_ | with_reducible refine Rd.intI ?_ | with_reducible refine Rd.lc ?_ | with_reducible refine Rd.for_ ?_ | with_reducible refine Rd.ilist ?_ | with_reducible refine Rd.itup ?_ | with_reducible refine Rd.irng1 ?_ | with_reducible refine Rd.irng2 ?_ | with_reducible refine Rd.ienum ?_ | with_reducible refine Rd.istr ?_ | with_reducible refine Rd.refA ?_ | with_reducible refine Rd.strA ?_ | with_reducible refine Rd.yes ?_ | with_reducible refine Rd.ifT ?_ | with_reducible refine Rd.ifF ?_ | with_reducible refine Rd.ifnT ?_ | with_reducible refine Rd.ifnF ?_ | with_reducible refine Rd.isi_ii ?_ | with_reducible refine Rd.isi_ib ?_ | with_reducible refine Rd.isi_is ?_ | with_reducible refine Rd.isi_il ?_ | with_reducible refine Rd.isi_it ?_ | with_reducible refine Rd.isi_id ?_ | with_reducible refine Rd.isi_bi ?_ | with_reducible refine Rd.isi_bb ?_ | with_reducible refine Rd.isi_bs ?_ | with_reducible refine Rd.isi_bl ?_ | with_reducible refine Rd.isi_bt ?_ | with_reducible refine Rd.isi_bd ?_ | with_reducible refine Rd.isi_si ?_ | with_reducible refine Rd.isi_sb ?_ | with_reducible refine Rd.isi_ss ?_ | with_reducible refine Rd.isi_sl ?_ | with_reducible refine Rd.isi_st ?_ | with_reducible refine Rd.isi_sd ?_ | with_reducible refine Rd.isi_ni ?_ | with_reducible refine Rd.isi_nb ?_ | with_reducible refine Rd.isi_ns ?_ | with_reducible refine Rd.isi_nl ?_ | with_reducible refine Rd.isi_nt ?_ | with_reducible refine Rd.isi_nd ?_ | with_reducible refine Rd.sl ?_ | with_reducible refine Rd.v0 ?_ | with_reducible refine Rd.v1 ?_ | with_reducible refine Rd.v2 ?_ | with_reducible refine Rd.v3 ?_ | with_reducible refine Rd.v4 ?_ | with_reducible refine Rd.v5 ?_ | with_reducible refine Rd.v6 ?_ | with_reducible refine Rd.v7 ?_ | with_reducible refine Rd.v8 ?_ | with_reducible refine Rd.v9 ?_ | with_reducible refine Rd.v10 ?_ | with_reducible refine Rd.v11 ?_ | with_reducible refine Rd.v12 ?_ | with_reducible refine Rd.v13 ?_ | with_reducible refine Rd.v14 ?_ | with_reducible refine Rd.v15 ?_ | with_reducible refine Rd.v16 ?_ | with_reducible refine Rd.v17 ?_ | with_reducible refine Rd.v18 ?_ | with_reducible refine Rd.v19 ?_ | with_reducible refine Rd.v20 ?_ | with_reducible refine Rd.v21 ?_ | with_reducible refine Rd.v22 ?_ | with_reducible refine Rd.v23 ?_ | with_reducible refine Rd.v24 ?_ | with_reducible refine Rd.v25 ?_ | with_reducible refine Rd.v26 ?_ | with_reducible refine Rd.v27 ?_ | with_reducible refine Rd.n0 ?_ | with_reducible refine Rd.n1 ?_ | with_reducible refine Rd.n2 ?_ | with_reducible refine Rd.n3 ?_ | with_reducible refine Rd.n4 ?_ | with_reducible refine Rd.n5 ?_ | with_reducible refine Rd.n6 ?_ | with_reducible refine Rd.n7 ?_ | with_reducible refine Rd.n8 ?_ | with_reducible refine Rd.n9 ?_ | with_reducible refine Rd.n10 ?_ | with_reducible refine Rd.n11 ?_ | with_reducible refine Rd.n12 ?_ | with_reducible refine Rd.n13 ?_ | with_reducible refine Rd.n14 ?_ | with_reducible refine Rd.n15 ?_ | with_reducible refine Rd.n16 ?_ | with_reducible refine Rd.n17 ?_ | with_reducible refine Rd.n18 ?_ | with_reducible refine Rd.n19 ?_ | with_reducible refine Rd.n20 ?_ | with_reducible refine Rd.n21 ?_ | with_reducible refine Rd.n22 ?_ | with_reducible refine Rd.n23 ?_ | with_reducible refine Rd.n24 ?_ | with_reducible refine Rd.n25 ?_ | with_reducible refine Rd.n26 ?_ | with_reducible refine Rd.n27 ?_ | with_reducible refine Rd.g0 ?_ | with_reducible refine Rd.g1 ?_ | with_reducible refine Rd.g2 ?_ | with_reducible refine Rd.g3 ?_ | with_reducible refine Rd.g4 ?_ | with_reducible refine Rd.g5 ?_ | with_reducible refine Rd.g6 ?_ | with_reducible refine Rd.g7 ?_ | with_reducible refine Rd.g8 ?_ | with_reducible refine Rd.g9 ?_ | with_reducible refine Rd.g10 ?_ | with_reducible refine Rd.g11 ?_ | with_reducible refine Rd.g12 ?_ | with_reducible refine Rd.g13 ?_ | with_reducible refine Rd.g14 ?_ | with_reducible refine Rd.g15 ?_ | with_reducible refine Rd.g16 ?_ | with_reducible refine Rd.g17 ?_ | with_reducible refine Rd.g18 ?_ | with_reducible refine Rd.g19 ?_ | with_reducible refine Rd.g20 ?_ | with_reducible refine Rd.g21 ?_ | with_reducible refine Rd.g22 ?_ | with_reducible refine Rd.g23 ?_ | with_reducible refine Rd.g24 ?_ | with_reducible refine Rd.g25 ?_ | with_reducible refine Rd.g26 ?_ | with_reducible refine Rd.g27 ?_ | ((with_reducible apply Rd.glst); (first | assumption | exact upd_same); exact rfl) | ((with_reducible apply Rd.gtP); assumption; assumption) | ((with_reducible apply Rd.revq); first | assumption | exact SqL.of (by assumption)) | ((with_reducible apply Rd.fldI); (first | assumption | exact upd_same); assumption; assumption; (first | assumption | with_unfolding_all rfl)) | ((with_reducible apply Rd.methI); (first | assumption | exact upd_same); (first | assumption | with_unfolding_all rfl)) | ((with_reducible apply Rd.sfldI); (first | assumption | exact upd_same); assumption; assumption; exact Nat.le_of_ble_eq_true rfl) | ((with_reducible apply Rd.maxL); assumption) | ((with_reducible apply Rd.anyL); assumption) | ((with_reducible apply Rd.sumL); assumption) | ((with_reducible refine Rd.izI (by assumption) (by assumption) ?_)) | ((with_reducible refine Rd.eq ?_ ?_); exact rfl) | ((with_reducible refine Rd.ne ?_ ?_); exact rfl) | ((with_reducible refine Rd.szA ?_ ?_); exact Nat.le_of_ble_eq_true rfl) | ((with_reducible refine Rd.I ?_ ?_); first | assumption | decide | exact Or.inr (by decide +kernel) | exact Or.inl (by decide +kernel) | exact ⟨by decide, by decide⟩ | exact ⟨by decide, by decide, by decide⟩ | omega) | ((with_reducible apply Rd.tyL); first | assumption | exact upd_same) | ((with_reducible apply Rd.tyLq); assumption) | ((with_reducible apply Rd.ixL); (first | assumption | exact upd_same); exact rfl) | ((with_reducible apply Rd.ixT); (first | assumption | exact upd_same); exact rfl) | ((with_reducible apply Rd.ixLq); assumption; exact rfl) | ((with_reducible apply Rd.ixTq); assumption; exact rfl) | ((with_reducible apply Rd.gtup); (first | assumption | exact upd_same); exact rfl) | ((with_reducible apply Rd.gtupq); assumption; exact rfl) | ((with_reducible apply Rd.sqAq); assumption) | ((with_reducible apply Rd.stAq); assumption) | ((with_reducible apply Rd.enAq); assumption) | ((with_reducible apply Rd.lenLq); assumption) | ((with_reducible apply Rd.lenTq); assumption) | ((with_reducible apply Rd.sqA); first | assumption | exact upd_same) | ((with_reducible apply Rd.stA); first | assumption | exact upd_same) | ((with_reducible apply Rd.enA); first | assumption | exact upd_same) | ((with_reducible apply Rd.lenL); first | assumption | exact upd_same) | ((with_reducible apply Rd.lenT); first | assumption | exact upd_same) | ((with_reducible refine Rd.nwT ?_ ?_); exact Nat.le_of_ble_eq_true rfl) | ((with_reducible refine Rd.nwL ?_ ?_); exact Nat.le_of_ble_eq_true rfl) | ((with_reducible apply Rd.listOf); assumption) | ((with_reducible apply Rd.listOfq); assumption) | ((with_reducible apply Rd.slo); assumption) | ((with_reducible apply Rd.slq); assumption) | ((with_reducible apply Rd.srtI); assumption) | ((with_reducible apply Rd.srtIo); assumption) | ((with_reducible refine Rd.isi_li (by assumption) ?_)) | ((with_reducible refine Rd.isi_lb (by assumption) ?_)) | ((with_reducible refine Rd.isi_ls (by assumption) ?_)) | ((with_reducible refine Rd.isi_ll (by assumption) ?_)) | ((with_reducible refine Rd.isi_lt (by assumption) ?_)) | ((with_reducible refine Rd.isi_ld (by assumption) ?_)) | ((with_reducible refine Rd.isi_ti (by assumption) ?_)) | ((with_reducible refine Rd.isi_tb (by assumption) ?_)) | ((with_reducible refine Rd.isi_ts (by assumption) ?_)) | ((with_reducible refine Rd.isi_tl (by assumption) ?_)) | ((with_reducible refine Rd.isi_tt (by assumption) ?_)) | ((with_reducible refine Rd.isi_td (by assumption) ?_)))))
theorem dec_str (m : Nat) (h : m < 1000000000000000000) : (Str.ofString (toString ((m : Nat) : Int))).length ≤ 18 := by
  rw [SX.num_S m, SX.S_len]
  exact TL.numL_len (k := 18) (by decide) (by omega)
theorem dec_log (m : Nat) (h : m < 1000000000000000000) : ((m : Int).natAbs).log2 < 1920 := by
  by_cases h0 : m = 0
  · subst h0; decide
  · have z : ((m : Int).natAbs) = m := rfl
    rw [z]
    exact Nat.lt_trans ((Nat.log2_lt h0).mpr (show m < 2 ^ 60 by omega)) (by decide)

/-! ### the law's programs -/
theorem cutK {S : Addr → Prop} {H H' : Hp} {p c : Addr} (hp : S p) (hc : S c) (k : Keep p c H H') : Same (Cut S H) (Cut S H') := Cut.keep fun b x n e => k b x (fun z => n (by rw [z]; exact hp)) (fun z => n (by rw [z]; exact hc)) e
theorem Live.keepS {S : Addr → Prop} {H H' : Hp} {p c : Addr} (l : Live S H) (st : StOk H' p c) (k : Keep p c H H') : Live S H' := fun b m => by
  obtain ⟨ms, sd, _, hp, hc, _⟩ := st
  by_cases e1 : b = p
  · exact ⟨_, by rw [e1]; exact hp⟩
  by_cases e2 : b = c
  · exact ⟨_, by rw [e2]; exact hc⟩
  obtain ⟨x, e⟩ := l b m
  exact ⟨x, k b x e1 e2 e⟩
def onm (n : Nat) : Str := ("o" : Str) ++ Str.ofString (toString ((n : Nat) : Int))
theorem callsN_app (a b : List Stm) : callsN (a ++ b) = callsN a ++ callsN b := by
  unfold callsN; rw [flats_app, List.filterMap_append]
theorem nests_app (a b : List Stm) : nests (a ++ b) = max (nests a) (nests b) := by
  induction a with
  | nil => show nests b = max 0 (nests b); omega
  | cons s r ih => show max s.nest (nests (r ++ b)) = max (max s.nest (nests r)) (nests b); rw [ih]; omega
section
variable {P : Program} {w : World} {K : PySem.W.Frag} {mg : Str → Option Value} {base : Heap}
def sp__law_wrapped (K : PySem.W.Frag) : Sp := fun vs H Q _ => ∃ (S : Addr → Prop) (p c : Addr) (v : V) (o op : Str), vs = [.ref p, v] ∧ StOk H p c ∧ S p ∧ S c ∧ Live S H ∧ Dp K (Cut S H) v (Stm.call none o op []).d ∧
  ∀ (v' : V) (s : Stm) H', Dp K (Cut S H') v' s.d → callsN [s] = [o] → s.nest ≤ 2 → s.flat.length ≤ 3 → StOk H' p c → Keep p c H H' → Q v' H'
theorem ok__law_wrapped (T : Top K mg) : FnOk P w K mg base CX0 2 T.a__law_wrapped T.d__law_wrapped ["state", "call"]  (sp__law_wrapped K) := by
  refine T.F__law_wrapped.ok sc__law_wrapped (fun vs H Q E h => ?_) (fun cdv A outer s H vs Q E hr h => ?_)
  · obtain ⟨_, _, _, _, _, _, rfl, _⟩ := h
    rfl
  · obtain ⟨S, p, c, v, o, op, rfl, st, hp, hc, lv, dv, q⟩ := h
    refine ⟨_, (pss_cons (ps_set (i := 2) sc__law_wrapped.nd rfl (by first | exact Or.inl rfl | exact Or.inr rfl) (pe_call (ok__law_draw T) (hr.mono (by decide)) (by rfl) T.g__law_draw T.F__law_draw.kp T.b__law_draw .nil pass0 (pa_cons (pv 0) (pa_cons pe_int pa_nil))))
  (pss_cons (ps_if (pt_cmpR op_eq (pv 2) pe_int (nomark _))
  (pss_one (ps_ret (pe_tup (pa_cons pe_str (pa_cons (pe_tup (pa_cons pe_str (pa_cons pe_int pa_nil))) (pa_cons (pe_lst pa_nil) (pa_cons (pe_lst (pa_cons (pv 1) pa_nil)) pa_nil)))))))
  pss_nil)
  (pss_cons (ps_if (pt_cmpR op_eq (pv 2) pe_int (nomark _))
  (pss_one (ps_ret (pe_tup (pa_cons pe_str (pa_cons pe_str (pa_cons pe_int (pa_cons pe_non (pa_cons (pe_lst (pa_cons (pe_tup (pa_cons pe_str (pa_cons (pe_tup (pa_cons pe_str (pa_cons pe_int pa_nil))) (pa_cons (pe_lst (pa_cons (pv 1) pa_nil)) (pa_cons (pe_lst pa_nil) pa_nil))))) pa_nil)) pa_nil))))))))
  pss_nil)
  (pss_one (ps_ret (pv 1)))))), ?_⟩
    rw [show ∀ a0 a1 : V, L2.start ["state", "call", "kind"] [a0, a1] = [some a0, some a1, none] from fun _ _ => rfl]
    walk_at "my rn"
    refine ⟨p, c, 4, rfl, st, by decide, by decide, fun kind H1 k0 k1 st1 kp1 => ?_⟩
    have c1 := cutK hp hc kp1
    have lv1 := lv.keepS st1 kp1
    walk_at "my rn"
    refine Rd.ifD (fun _ => ?_) (fun _ => ?_)
    · walk_at "my rn"
      intro t1 H2 n1 s2 h2
      walk_at "my rn"
      intro l1 H3 n2 s3 h3
      walk_at "my rn"
      intro l2 H4 n3 s4 h4
      walk_at "my rn"
      intro t2 H5 n4 s5 h5
      have s25 := s3.trans (s4.trans s5)
      have o1 := lv1.off n1
      have o2 := (lv1.same s2).off n2
      have o3 := ((lv1.same s2).same s3).off n3
      have o4 := (((lv1.same s2).same s3).same s4).off n4
      refine q _ (.ifs (.num 0) [] [.call none o op []]) H5 ?_ rfl (by simp [Stm.nest, nests]) (by simp [Stm.flat, flats]) (st1.same (s2.trans s25)) (kp1.trans (Keep.same (s2.trans s25)))
      exact .tup (SqT.of (Cut.at o4 h5)) (.cons (.str _) (.cons (.tup (SqT.of (Cut.at o1 (s25 _ _ h2))) (.cons (.str _) (.cons (.int _) .nil))) (.cons (.lst (SqL.of (Cut.at o2 ((s4.trans s5) _ _ h3))) .nil) (.cons (.lst (SqL.of (Cut.at o3 (s5 _ _ h4))) (.cons (dp_same (c1.trans (Cut.same (s2.trans s25))) dv) .nil)) .nil))))
    · walk_at "my rn"
      refine Rd.ifD (fun _ => ?_) (fun _ => ?_)
      · walk_at "my rn"
        intro t1 H2 n1 s2 h2
        walk_at "my rn"
        intro l1 H3 n2 s3 h3
        walk_at "my rn"
        intro l2 H4 n3 s4 h4
        walk_at "my rn"
        intro t2 H5 n4 s5 h5
        walk_at "my rn"
        intro l3 H6 n5 s6 h6
        walk_at "my rn"
        intro t3 H7 n6 s7 h7
        have s27 := s3.trans (s4.trans (s5.trans (s6.trans s7)))
        have o1 := lv1.off n1
        have o2 := (lv1.same s2).off n2
        have o3 := ((lv1.same s2).same s3).off n3
        have o4 := (((lv1.same s2).same s3).same s4).off n4
        have o5 := ((((lv1.same s2).same s3).same s4).same s5).off n5
        have o6 := (((((lv1.same s2).same s3).same s4).same s5).same s6).off n6
        refine q _ (.loop "i" 2 none [.ifs (.num 1) [.call none o op []] []]) H7 ?_ rfl (by simp [Stm.nest, nests]) (by simp [Stm.flat, flats]) (st1.same (s2.trans s27)) (kp1.trans (Keep.same (s2.trans s27)))
        exact .tup (SqT.of (Cut.at o6 h7)) (.cons (.str _) (.cons (.str _) (.cons (.int _) (.cons .non (.cons (.lst (SqL.of (Cut.at o5 (s7 _ _ h6))) (.cons (.tup (SqT.of (Cut.at o4 ((s6.trans s7) _ _ h5))) (.cons (.str _) (.cons (.tup (SqT.of (Cut.at o1 (s27 _ _ h2))) (.cons (.str _) (.cons (.int _) .nil)))
          (.cons (.lst (SqL.of (Cut.at o2 ((s4.trans (s5.trans (s6.trans s7))) _ _ h3))) (.cons (dp_same (c1.trans (Cut.same (s2.trans s27))) dv) .nil)) (.cons (.lst (SqL.of (Cut.at o3 ((s5.trans (s6.trans s7)) _ _ h4))) .nil) .nil))))) .nil)) .nil)))))
      · walk_at "my rn"
        exact q _ (.call none o op []) H1 (dp_same c1 dv) rfl (by simp [Stm.nest]) (by simp [Stm.flat]) st1 kp1
def sp__law_calls (K : PySem.W.Frag) : Sp := fun vs H Q _ => ∃ (S : Addr → Prop) (p c : Addr) (first many : Nat), vs = [.ref p, .int first, .int many] ∧ StOk H p c ∧ S p ∧ S c ∧ Live S H ∧ many ≤ 4 ∧
  ∀ (M B T : Addr) (b : List Stm) (ns : List Nat) H', H M = none → H' M = some (.lst [.ref B, .ref T]) → ¬ S M → Dp K (Cut S H') (.ref B) (.list (stmsD b)) → Dp K (Cut S H') (.ref T) (.list (ns.map fun (n : Nat) => PyData.int (n : Int))) → callsN b = ns.map onm → (∀ n ∈ ns, first ≤ n ∧ n < many) → ns.length ≤ 2 → nests b ≤ 2 → (flats b).length ≤ 6 →
    StOk H' p c → Keep p c H H' → Q (.ref M) H'
theorem ok__law_calls (T : Top K mg) : FnOk P w K mg base CX0 3 T.a__law_calls T.d__law_calls ["state", "first", "many"]  (sp__law_calls K) := by
  refine T.F__law_calls.ok sc__law_calls (fun vs H Q E h => ?_) (fun cdv A outer s H vs Q E hr h => ?_)
  · obtain ⟨_, _, _, _, _, rfl, _⟩ := h
    rfl
  · obtain ⟨S, p, c, first, many, rfl, st, hp, hc, lv, m4, q⟩ := h
    refine ⟨_, (pss_cons (ps_set (i := 3) sc__law_calls.nd rfl (by first | exact Or.inl rfl | exact Or.inr rfl) (pe_lst pa_nil))
  (pss_cons (ps_set (i := 4) sc__law_calls.nd rfl (by first | exact Or.inl rfl | exact Or.inr rfl) (pe_lst pa_nil))
  (pss_cons (ps_for PassesOwn.never rfl (pi_range1 (by rfl) T.m_range (pa_cons (pe_call (ok__law_draw T) (hr.mono (by decide)) (by rfl) T.g__law_draw T.F__law_draw.kp T.b__law_draw .nil pass0 (pa_cons (pv 0) (pa_cons pe_int pa_nil))) pa_nil)) (pg_name (i := 5) sc__law_calls.nd rfl (by first | exact Or.inl rfl | exact Or.inr rfl))
  (pss_one (ps_if (pt_cmpR op_lt (pv 1) (pv 2) (nomark _))
  (pss_cons (ps_set (i := 6) sc__law_calls.nd rfl (by first | exact Or.inl rfl | exact Or.inr rfl) (pe_op op_add (pv 1) (pe_call (ok__law_draw T) (hr.mono (by decide)) (by rfl) T.g__law_draw T.F__law_draw.kp T.b__law_draw .nil pass0 (pa_cons (pv 0) (pa_cons (pe_op op_sub (pv 2) (pv 1)) pa_nil)))))
  (pss_cons (ps_expr (pe_bm PySem.F.plainAttrs_list PySem.F.slot_list_append PySem.F.type_list_append mt_append (pv 3) (pa_cons (pe_call (ok__law_wrapped T) (hr.mono (by decide)) (by rfl) T.g__law_wrapped T.F__law_wrapped.kp T.b__law_wrapped .nil pass0 (pa_cons (pv 0) (pa_cons (pe_tup (pa_cons pe_str (pa_cons pe_non (pa_cons (pe_op op_add_str pe_str (pe_callTy call_str_int (by rfl) T.m_str (by decide +kernel) (pa_cons (pv 6) pa_nil))) (pa_cons (pe_op op_add_str pe_str (pe_callTy call_str_int (by rfl) T.m_str (by decide +kernel) (pa_cons (pe_call (ok__law_draw T) (hr.mono (by decide)) (by rfl) T.g__law_draw T.F__law_draw.kp T.b__law_draw .nil pass0 (pa_cons (pv 0) (pa_cons pe_int pa_nil))) pa_nil))) (pa_cons (pe_lst pa_nil) pa_nil)))))) pa_nil))) pa_nil)))
  (pss_one (ps_expr (pe_bm PySem.F.plainAttrs_list PySem.F.slot_list_append PySem.F.type_list_append mt_append (pv 4) (pa_cons (pv 6) pa_nil))))))
  pss_nil)))
  (pss_one (ps_ret (pe_lst (pa_cons (pv 3) (pa_cons (pv 4) pa_nil)))))))), ?_⟩
    rw [show ∀ a0 a1 a2 : V, L2.start ["state", "first", "many", "body", "targets", "k", "at"] [a0, a1, a2] = [some a0, some a1, some a2, none, none, none, none] from fun _ _ _ => rfl]
    walk_at "my rn"
    intro B H1 nB s1 hB
    walk_at "my rn"
    intro T H2 nT s2 hT
    have hB2 := s2 _ _ hB
    have BT : B ≠ T := fun z => by rw [← z, hB] at nT; cases nT
    have nB0 := lv.off nB
    have nT0 := (lv.same s1).off nT
    have pB : B ≠ p ∧ B ≠ c := ⟨fun z => nB0 (by rw [z]; exact hp), fun z => nB0 (by rw [z]; exact hc)⟩
    have pT : T ≠ p ∧ T ≠ c := ⟨fun z => nT0 (by rw [z]; exact hp), fun z => nT0 (by rw [z]; exact hc)⟩
    have s12 := s1.trans s2
    walk_at "my rn"
    refine ⟨p, c, 3, rfl, st.same s12, by decide, by decide, fun m H3 m0 m1 st3 k3 => ?_⟩
    have hB3 := k3 _ _ pB.1 pB.2 hB2
    have hT3 := k3 _ _ pT.1 pT.2 hT
    walk_at "my rn"
    refine ⟨by omega, by omega, for_it walk_range (fun i σ H' => ∃ (bs : List V) (b : List Stm) (ns : List Nat) (y5 y6 : Option V), σ = [some (.ref p), some (.int (first : Int)), some (.int (many : Int)), some (.ref B), some (.ref T), y5, y6] ∧ H' B = some (.lst bs) ∧ DpAll K (Cut (fun a => (S a ∨ a = B) ∨ a = T) H') bs (stmsD b) ∧ H' T = some (.lst (ns.map fun (n : Nat) => V.int (n : Int))) ∧
      callsN b = ns.map onm ∧ (∀ n ∈ ns, first ≤ n ∧ n < many) ∧ ns.length ≤ i ∧ b.length = ns.length ∧ nests b ≤ 2 ∧ (flats b).length ≤ 3 * i ∧ StOk H' p c ∧ Keep p c H H')
      ⟨[], [], [], none, none, rfl, hB3, .nil, hT3, rfl, by simp, Nat.zero_le _, rfl, by decide, by decide, st3, (Keep.same s12).trans k3⟩ (fun _ _ _ _ _ => trivial) ?_ ?_⟩
    · rintro i x σ H4o H4 hi ⟨bs, b, ns, y5, y6, rfl, hB4, db, hT4, ec, rg, ln, lb, nb, fb, st4, k4⟩ yy
      obtain ⟨rfl, e3⟩ := Rd.zr yy
      subst e3
      have lbs : bs.length = b.length := by rw [dps_len db, stmsD_map, List.length_map]
      walk_at "my rn"
      refine Rd.ifD (fun c1 => ?_) (fun c1 => ?_)
      · have c1' : first < many := by omega
        walk_at "my rn"
        refine ⟨p, c, _, rfl, st4, by omega, by omega, fun u H5 u0 u1 st5 k5 => ?_⟩
        obtain ⟨at_, ea⟩ : ∃ n : Nat, (first : Int) + u = (n : Int) := ⟨first + u.toNat, by omega⟩
        have hB5 := k5 _ _ pB.1 pB.2 hB4
        have hT5 := k5 _ _ pT.1 pT.2 hT4
        have ln2 : (Str.ofString (toString ((at_ : Nat) : Int))).length ≤ 18 := dec_str at_ (by omega)
        walk_at "my rn"
        rw [ea]
        refine ⟨dec_log at_ (by omega), _, _, rfl, rfl, Rd.sz (by show 1 + _ ≤ _; omega), ?_⟩
        walk_at "my rn"
        refine ⟨p, c, 2, rfl, st5, by decide, by decide, fun f H6 g0 g1 st6 k6 => ?_⟩
        obtain ⟨fn, rfl⟩ : ∃ n : Nat, f = (n : Int) := ⟨f.toNat, by omega⟩
        have lf2 : (Str.ofString (toString ((fn : Nat) : Int))).length ≤ 18 := dec_str fn (by omega)
        refine ⟨_, rfl, dec_log fn (by omega), _, _, rfl, rfl, Rd.sz (by show 1 + _ ≤ _; omega), ?_⟩
        walk_at "my rn"
        intro L7 H7 nL7 s7 hL7
        walk_at "my rn"
        intro tp H8 ntp s8 htp
        have s78 := s7.trans s8
        have k46 := k5.trans k6
        have k48 := k46.trans (Keep.same s78)
        have hB8 := k48 _ _ pB.1 pB.2 hB4
        have hT8 := k48 _ _ pT.1 pT.2 hT4
        have lv4 : Live (fun a => (S a ∨ a = B) ∨ a = T) H4 := ((lv.keepS st4 k4).or hB4).or hT4
        have lv6 := lv4.keepS st6 k46
        have o7 := lv6.off nL7
        have o8 := (lv6.same s7).off ntp
        have c48 := cutK (S := fun a => (S a ∨ a = B) ∨ a = T) (.inl (.inl hp)) (.inl (.inl hc)) k48
        refine ⟨fun a => (S a ∨ a = B) ∨ a = T, p, c, .ref tp, onm at_, _, rfl, st6.same s78, .inl (.inl hp), .inl (.inl hc), lv6.same s78, .tup (SqT.of (Cut.at o8 htp)) (.cons (.str _) (.cons .non (.cons (.str _) (.cons (.str _) (.cons (.lst (SqL.of (Cut.at o7 (s8 _ _ hL7))) .nil) .nil))))), fun v' s H9 dv es nes fl st9 k9 => ?_⟩
        have c49 := c48.trans (cutK (S := fun a => (S a ∨ a = B) ∨ a = T) (.inl (.inl hp)) (.inl (.inl hc)) k9)
        have hB9 := k9 _ _ pB.1 pB.2 hB8
        have hT9 := k9 _ _ pT.1 pT.2 hT8
        walk_at "my rn"
        refine Rd.app hB9 (Rd.szl (by omega)) ?_
        obtain ⟨Ha, ea2⟩ : ∃ Ha, Ha = upd H9 B (.lst (bs ++ [v'])) := ⟨_, rfl⟩
        have hBa : Ha B = some (.lst (bs ++ [v'])) := by rw [ea2]; exact upd_same
        have hTa : Ha T = some (.lst (ns.map fun (n : Nat) => V.int (n : Int))) := by rw [ea2, upd_ne BT.symm]; exact hT9
        have ca : Same (Cut (fun a => (S a ∨ a = B) ∨ a = T) H9) (Cut (fun a => (S a ∨ a = B) ∨ a = T) Ha) := by rw [ea2]; exact Cut.upd (S := fun a => (S a ∨ a = B) ∨ a = T) (.inl (.inr rfl))
        have sta : StOk Ha p c := by
          obtain ⟨ms, sd, z1, z2, z3, z4⟩ := st9
          exact ⟨ms, sd, z1, by rw [ea2, upd_ne pB.1.symm]; exact z2, by rw [ea2, upd_ne pB.2.symm]; exact z3, z4⟩
        have ka : Keep p c H Ha := fun b o n1 n2 e => by
          rw [ea2, upd_ne (fun z => by rw [z, nB] at e; cases e)]
          exact k9 b o n1 n2 (k48 b o n1 n2 (k4 b o n1 n2 e))
        rw [← ea2]
        walk_at "my rn"
        refine Rd.app hTa (Rd.szl (by rw [List.length_map]; omega)) ?_
        refine ⟨bs ++ [v'], b ++ [s], ns ++ [at_], _, _, rfl, by rw [upd_ne BT]; exact hBa, ?_, by rw [upd_same, List.map_append]; rfl, ?_, fun n m => ?_, by simp; omega, by simp [lb], ?_, ?_, ?_, fun b o n1 n2 e => ?_⟩
        · rw [stmsD_app]
          have cT : Same (Cut (fun a => (S a ∨ a = B) ∨ a = T) Ha) (Cut (fun a => (S a ∨ a = B) ∨ a = T) (upd Ha T (.lst (ns.map (fun (n : Nat) => V.int (n : Int)) ++ [.int (at_ : Int)])))) := Cut.upd (S := fun a => (S a ∨ a = B) ∨ a = T) (.inr rfl)
          exact dps_app (dps_same ((c49.trans ca).trans cT) db) (.cons (dp_same (ca.trans cT) dv) .nil)
        · rw [callsN_app, ec, es, List.map_append]; rfl
        · rcases List.mem_append.mp m with m | m
          · exact rg n m
          · rw [List.mem_singleton.mp m]; omega
        · rw [nests_app]; exact Nat.max_le.mpr ⟨nb, by show max s.nest 0 ≤ 2; omega⟩
        · rw [flats_app]; show (flats b ++ (s.flat ++ [])).length ≤ _; simp only [List.append_nil, List.length_append]; omega
        · obtain ⟨ms, sd, z1, z2, z3, z4⟩ := sta
          exact ⟨ms, sd, z1, by rw [upd_ne pT.1.symm]; exact z2, by rw [upd_ne pT.2.symm]; exact z3, z4⟩
        · rw [upd_ne (fun z => by rw [z, s1.free nT] at e; cases e)]
          exact ka b o n1 n2 e
      · walk_at "my rn"
        exact ⟨bs, b, ns, _, _, rfl, hB4, db, hT4, ec, rg, by omega, lb, nb, by omega, st4, k4⟩
    · rintro σ H4 ⟨bs, b, ns, y5, y6, rfl, hB4, db, hT4, ec, rg, ln, lb, nb, fb, st4, k4⟩
      walk_at "my rn"
      intro M H5 nM s5 hM
      have lv4 := lv.keepS st4 k4
      have lv4' : Live (fun a => (S a ∨ a = B) ∨ a = T) H4 := (lv4.or hB4).or hT4
      have c5 := Cut.same (S := S) s5
      refine q M B T b ns H5 (k4.free st4 nM) hM (lv4.off nM) (.lst (SqL.of (Cut.at nB0 (s5 _ _ hB4))) (dps_same ((Cut.mono fun a m => .inl (.inl m)).trans c5) db)) (.lst (SqL.of (Cut.at nT0 (s5 _ _ hT4))) ?_) ec rg (by omega) nb (by omega) (st4.same s5) (k4.trans (Keep.same s5))
      exact dps_of (by simp) fun i v d h1 h2 => by
        rw [List.getElem?_map] at h1 h2
        cases z : ns[i]? with
        | none => rw [z] at h1; cases h1
        | some n => rw [z] at h1 h2; cases h1; cases h2; exact .int _
end

end Mine

set_option Elab.async false
set_option linter.all false
set_option maxRecDepth 100000
set_option maxHeartbeats 1000000

--@@rec _copied _copied_statement

namespace Mine
open PySem PySem.Spec PyProof.Rows L2
local macro_rules | `(tactic| walk_at "my rn") => `(tactic| (repeat (first | with_reducible refine Rd.catQI ?_ | with_reducible refine Rd.revN ?_ | with_reducible refine Rd.lzip ?_ | with_reducible refine Rd.fld ?_ | with_reducible refine Rd.sfld ?_ | with_reducible refine Rd.meth ?_ | with_reducible refine Rd.make ?_ | with_reducible refine Rd.izip ?_ | with_reducible refine Rd.tupN ?_ | with_reducible refine Rd.lstN ?_ | with_reducible refine Rd.cbListOf ?_ | with_reducible refine Rd.cbListOfR ?_ | with_reducible refine Rd.catI ?_ | with_reducible refine Rd.slN ?_ | with_reducible refine Rd.cbSrtI ?_ | with_reducible refine Rd.seq ?_ | with_reducible refine Rd.next ?_ | with_reducible refine Rd.brk ?_ | with_reducible refine Rd.cont ?_ | with_reducible refine Rd.asg ?_ | with_reducible refine Rd.ret ?_ | with_reducible refine Rd.retN ?_ | with_reducible refine Rd.drop ?_ | with_reducible refine Rd.ifs ?_ | with_reducible refine Rd.ife ?_ | with_reducible refine Rd.test ?_ | with_reducible refine Rd.tb_ ?_ | with_reducible refine Rd.bl ?_ | with_reducible refine Rd.bl2 ?_ | with_reducible refine Rd.and_ ?_ | with_reducible refine Rd.or_ ?_ | with_reducible refine Rd.not_ ?_ | with_reducible refine Rd.andV ?_ | with_reducible refine Rd.orV ?_ | with_reducible refine Rd.notV ?_ | with_reducible refine Rd.op ?_ | with_reducible refine Rd.un ?_ | with_reducible refine Rd.I0 ?_ | with_reducible refine Rd.U ?_ | with_reducible refine Rd.ip ?_ | with_reducible refine Rd.c_ ?_ | with_reducible refine Rd.nil ?_ | with_reducible refine Rd.cons ?_ | with_reducible refine Rd.call ?_ | with_reducible refine Rd.cb ?_ | with_reducible refine Rd.bm ?_ | with_reducible refine Rd.bm0 ?_ | with_reducible refine Rd.nopart ?_ | with_reducible refine Rd.part ?_ | with_reducible refine Rd.int1 ?_ | with_reducible refine Rd.ints1 ?_ | with_reducible refine Rd.ints2 ?_ | with_reducible refine Rd.gcons ?_ | with_reducible refine Rd.gnil ?_ | with_reducible refine Rd.sub ?_ | with_reducible refine Rd.isN ?_ | with_reducible refine Rd.chain ?_ | with_reducible refine Rd.rf ?_ | with_reducible refine Rd.tyS ?_ | with_reducible refine Rd.intI ?_ | with_reducible refine Rd.lc ?_ | with_reducible refine Rd.for_ ?_ | with_reducible refine Rd.ilist ?_ | with_reducible refine Rd.itup ?_ | with_reducible refine Rd.irng1 ?_ | with_reducible refine Rd.irng2 ?_ | with_reducible refine Rd.ienum ?_ | with_reducible refine Rd.istr ?_ | with_reducible refine Rd.refA ?_ | with_reducible refine Rd.strA ?_ | with_reducible refine Rd.yes ?_ | with_reducible refine Rd.ifT ?_ | with_reducible refine Rd.ifF ?_ | with_reducible refine Rd.ifnT ?_ | with_reducible refine Rd.ifnF ?_ | with_reducible refine Rd.isi_ii ?_ | with_reducible refine Rd.isi_ib ?_ | with_reducible refine Rd.isi_is ?_ | with_reducible refine Rd.isi_il ?_ | with_reducible refine Rd.isi_it ?_ | with_reducible refine Rd.isi_id ?_ | with_reducible refine Rd.isi_bi ?_ | with_reducible refine Rd.isi_bb ?_ | with_reducible refine Rd.isi_bs ?_ | with_reducible refine Rd.isi_bl ?_ | with_reducible refine Rd.isi_bt ?_ | with_reducible refine Rd.isi_bd ?_ | with_reducible refine Rd.isi_si ?_ | with_reducible refine Rd.isi_sb ?_ | with_reducible refine Rd.isi_ss ?_ | with_reducible refine Rd.isi_sl ?_ | with_reducible refine Rd.isi_st ?_ | with_reducible refine Rd.isi_sd ?_ | with_reducible refine Rd.isi_ni ?_ | with_reducible refine Rd.isi_nb ?_ | with_reducible refine Rd.isi_ns ?_ | with_reducible refine Rd.isi_nl ?_ | with_reducible refine Rd.isi_nt ?_ | with_reducible refine Rd.isi_nd ?_ | with_reducible refine Rd.sl ?_ | with_reducible refine Rd.v0 ?_ | with_reducible refine Rd.v1 ?_ | with_reducible refine Rd.v2 ?_ | with_reducible refine Rd.v3 ?_ | with_reducible refine Rd.v4 ?_ | with_reducible refine Rd.v5 ?_ | with_reducible refine Rd.v6 ?_ | with_reducible refine Rd.v7 ?_ | with_reducible refine Rd.v8 ?_ | with_reducible refine Rd.v9 ?_ | with_reducible refine Rd.v10 ?_ | with_reducible refine Rd.v11 ?_ | with_reducible refine Rd.v12 ?_ | with_reducible refine Rd.v13 ?_ | with_reducible refine Rd.v14 ?_ | with_reducible refine Rd.v15 ?_ | with_reducible refine Rd.v16 ?_ | with_reducible refine Rd.v17 ?_ | with_reducible refine Rd.v18 ?_ | with_reducible refine Rd.v19 ?_ | with_reducible refine Rd.v20 ?_ | with_reducible refine Rd.v21 ?_ | with_reducible refine Rd.v22 ?_ | with_reducible refine Rd.v23 ?_ | with_reducible refine Rd.v24 ?_ | with_reducible refine Rd.v25 ?_ | with_reducible refine Rd.v26 ?_ | with_reducible refine Rd.v27 ?_ | with_reducible refine Rd.n0 ?_ | with_reducible refine Rd.n1 ?_ | with_reducible refine Rd.n2 ?_ | with_reducible refine Rd.n3 ?_ | with_reducible refine Rd.n4 ?_ | with_reducible refine Rd.n5 ?_ | with_reducible refine Rd.n6 ?_ | with_reducible refine Rd.n7 ?_ | with_reducible refine Rd.n8 ?_ | with_reducible refine Rd.n9 ?_ | with_reducible refine Rd.n10 ?_ | with_reducible refine Rd.n11 ?_ | with_reducible refine Rd.n12 ?_ | with_reducible refine Rd.n13 ?_ | with_reducible refine Rd.n14 ?_ | with_reducible refine Rd.n15 ?_ | with_reducible refine Rd.n16 ?_ | with_reducible refine Rd.n17 ?_ | with_reducible refine Rd.n18 ?_ | with_reducible refine Rd.n19 ?_ | with_reducible refine Rd.n20 ?_ | with_reducible refine Rd.n21 ?_ | with_reducible refine Rd.n22 ?_ | with_reducible refine Rd.n23 ?_ | with_reducible refine Rd.n24 ?_ | with_reducible refine Rd.n25 ?_ | with_reducible refine Rd.n26 ?_ | with_reducible refine Rd.n27 ?_ | with_reducible refine Rd.g0 ?_ | with_reducible refine Rd.g1 ?_ | with_reducible refine Rd.g2 ?_ | with_reducible refine Rd.g3 ?_ | with_reducible refine Rd.g4 ?_ | with_reducible refine Rd.g5 ?_ | with_reducible refine Rd.g6 ?_ | with_reducible refine Rd.g7 ?_ | with_reducible refine Rd.g8 ?_ | with_reducible refine Rd.g9 ?_ | with_reducible refine Rd.g10 ?_ | with_reducible refine Rd.g11 ?_ | with_reducible refine Rd.g12 ?_ | with_reducible refine Rd.g13 ?_ | with_reducible refine Rd.g14 ?_ | with_reducible refine Rd.g15 ?_ | with_reducible refine Rd.g16 ?_ | with_reducible refine Rd.g17 ?_ | with_reducible refine Rd.g18 ?_ | with_reducible refine Rd.g19 ?_ | with_reducible refine Rd.g20 ?_ | with_reducible refine Rd.g21 ?_ | with_reducible refine Rd.g22 ?_ | with_reducible refine Rd.g23 ?_ | with_reducible refine Rd.g24 ?_ | with_reducible refine Rd.g25 ?_ | with_reducible refine Rd.g26 ?_ | with_reducible refine Rd.g27 ?_ | ((with_reducible apply Rd.glst); (first | assumption | exact upd_same); exact rfl) | ((with_reducible apply Rd.gtP); assumption; assumption) | ((with_reducible apply Rd.revq); first | assumption | exact SqL.of (by assumption)) | ((with_reducible apply Rd.fldI); (first | assumption | exact upd_same); assumption; assumption; (first | assumption | with_unfolding_all rfl)) | ((with_reducible apply Rd.methI); (first | assumption | exact upd_same); (first | assumption | with_unfolding_all rfl)) | ((with_reducible apply Rd.sfldI); (first | assumption | exact upd_same); assumption; assumption; exact Nat.le_of_ble_eq_true rfl) | ((with_reducible apply Rd.maxL); assumption) | ((with_reducible apply Rd.anyL); assumption) | ((with_reducible apply Rd.sumL); assumption) | ((with_reducible refine Rd.izI (by assumption) (by assumption) ?_)) | ((with_reducible refine Rd.eq ?_ ?_); exact rfl) | ((with_reducible refine Rd.ne ?_ ?_); exact rfl) | ((with_reducible refine Rd.szA ?_ ?_); exact Nat.le_of_ble_eq_true rfl) | ((with_reducible refine Rd.I ?_ ?_); first | assumption | decide | exact Or.inr (by decide +kernel) | exact Or.inl (by decide +kernel) | exact ⟨by decide, by decide⟩ | exact ⟨by decide, by decide, by decide⟩ | omega) | ((with_reducible apply Rd.tyL); first | assumption | exact upd_same) | ((with_reducible apply Rd.tyLq); assumption) | ((with_reducible apply Rd.ixL); (first | assumption | exact upd_same); exact rfl) | ((with_reducible apply Rd.ixT); (first | assumption | exact upd_same); exact rfl) | ((with_reducible apply Rd.ixLq); assumption; exact rfl) | ((with_reducible apply Rd.ixTq); assumption; exact rfl) | ((with_reducible apply Rd.gtup); (first | assumption | exact upd_same); exact rfl) | ((with_reducible apply Rd.gtupq); assumption; exact rfl) | ((with_reducible apply Rd.sqAq); assumption) | ((with_reducible apply Rd.stAq); assumption) | ((with_reducible apply Rd.enAq); assumption) | ((with_reducible apply Rd.lenLq); assumption) | ((with_reducible apply Rd.lenTq); assumption) | ((with_reducible apply Rd.sqA); first | assumption | exact upd_same) | ((with_reducible apply Rd.stA); first | assumption | exact upd_same) | ((with_reducible apply Rd.enA); first | assumption | exact upd_same) | ((with_reducible apply Rd.lenL); first | assumption | exact upd_same) | ((with_reducible apply Rd.lenT); first | assumption | exact upd_same) | ((with_reducible refine Rd.nwT ?_ ?_); exact Nat.le_of_ble_eq_true rfl) | ((with_reducible refine Rd.nwL ?_ ?_); exact Nat.le_of_ble_eq_true rfl) | ((with_reducible apply Rd.listOf); assumption) | ((with_reducible apply Rd.listOfq); assumption) | ((with_reducible apply Rd.slo); assumption) | ((with_reducible apply Rd.slq); assumption) | ((with_reducible apply Rd.srtI); assumption) | ((with_reducible apply Rd.srtIo); assumption) | ((with_reducible refine Rd.isi_li (by assumption) ?_)) | ((with_reducible refine Rd.isi_lb (by assumption) ?_)) | ((with_reducible refine Rd.isi_ls (by assumption) ?_)) | ((with_reducible refine Rd.isi_ll (by assumption) ?_)) | ((with_reducible refine Rd.isi_lt (by assumption) ?_)) | ((with_reducible refine Rd.isi_ld (by assumption) ?_)) | ((with_reducible refine Rd.isi_ti (by assumption) ?_)) | ((with_reducible refine Rd.isi_tb (by assumption) ?_)) | ((with_reducible refine Rd.isi_ts (by assumption) ?_)) | ((with_reducible refine Rd.isi_tl (by assumption) ?_)) | ((with_reducible refine Rd.isi_tt (by assumption) ?_)) | ((with_reducible refine Rd.isi_td (by assumption) ?_)))))
def rowD (r : List Nat) : PyData := .list (r.map fun (n : Nat) => PyData.int (n : Int))
theorem dps_rowN {K : PySem.W.Frag} {H : Hp} (r : List Nat) : DpAll K H (r.map fun (n : Nat) => V.int (n : Int)) (r.map fun (n : Nat) => PyData.int (n : Int)) := dps_of (by simp) fun i v d h1 h2 => by
  rw [List.getElem?_map] at h1 h2
  cases z : r[i]? with
  | none => rw [z] at h1; cases h1
  | some n => rw [z] at h1 h2; cases h1; cases h2; exact .int _
theorem dps_rowI {K : PySem.W.Frag} {H : Hp} {r : List Nat} {xs : List V} (h : DpAll K H xs (r.map fun (n : Nat) => PyData.int (n : Int))) : xs = r.map fun (n : Nat) => V.int (n : Int) := by
  induction r generalizing xs with
  | nil => exact dp0 h
  | cons a r ih =>
    obtain ⟨v, vs, rfl, h1, h2⟩ := dp1 h
    rw [ih h2, dpI h1]; rfl
theorem StOk.off {H : Hp} {p c a : Addr} {o : HO} (st : StOk H p c) (n1 : a ≠ p) (n2 : a ≠ c) : StOk (upd H a o) p c := by
  obtain ⟨ms, sd, z1, z2, z3, z4⟩ := st
  exact ⟨ms, sd, z1, by rw [upd_ne n1.symm]; exact z2, by rw [upd_ne n2.symm]; exact z3, z4⟩
structure ObOk (many k : Nat) (ob : Ob) (r : List Nat) : Prop where
  name : ob.name = onm k
  calls : ob.calls = r.map onm
  rg : ∀ n ∈ r, k < n ∧ n < many
  len : r.length ≤ 4
  ops : ob.ops.length ≤ 2
  body : ∀ x ∈ ob.ops, nests x.body ≤ 2 ∧ (flats x.body).length ≤ 6
section
variable {P : Program} {w : World} {K : PySem.W.Frag} {mg : Str → Option Value} {base : Heap}
/-- the lists under way -/
structure ObsAt (K : PySem.W.Frag) (S : Addr → Prop) (p c O E : Addr) (many k : Nat) (H H' : Hp) (os evs : List V) (obs : List Ob) (es : List (List Nat)) : Prop where
  hO : H' O = some (.lst os)
  dO : DpAll K (Cut (fun a => (S a ∨ a = O) ∨ a = E) H') os (obs.map Ob.d)
  hE : H' E = some (.lst evs)
  dE : DpAll K (Cut (fun a => (S a ∨ a = O) ∨ a = E) H') evs (es.map rowD)
  lo : obs.length = k
  le : es.length = k
  ok : ∀ (i : Nat) ob r, obs[i]? = some ob → es[i]? = some r → ObOk many i ob r
  st : StOk H' p c
  kp : Keep p c H H'
/-- operations under way -/
structure OpsAt (K : PySem.W.Frag) (S : Addr → Prop) (p c Po : Addr) (many k : Nat) (H H' : Hp) (ps : List V) (R : Addr) (ops : List Op) (r : List Nat) (j : Nat) : Prop where
  hP : H' Po = some (.lst ps)
  dP : DpAll K (Cut (fun a => S a ∨ a = Po) H') ps (ops.map Op.d)
  dR : Dp K (Cut (fun a => S a ∨ a = Po) H') (.ref R) (rowD r)
  calls : (ops.flatMap fun x => callsN x.body) = r.map onm
  rg : ∀ n ∈ r, k < n ∧ n < many
  len : r.length ≤ 2 * j
  lops : ops.length = j
  body : ∀ x ∈ ops, nests x.body ≤ 2 ∧ (flats x.body).length ≤ 6
  st : StOk H' p c
  kp : Keep p c H H'
def sp__law_objects (K : PySem.W.Frag) : Sp := fun vs H Q _ => ∃ (S : Addr → Prop) (p c : Addr) (many : Nat), vs = [.ref p, .int many] ∧ StOk H p c ∧ S p ∧ S c ∧ Live S H ∧ many ≤ 4 ∧
  ∀ (M O E : Addr) (obs : List Ob) (es : List (List Nat)) H', H M = none → H' M = some (.lst [.ref O, .ref E]) → ¬ S M → Dp K (Cut S H') (.ref O) (.list (obs.map Ob.d)) → Dp K (Cut S H') (.ref E) (.list (es.map rowD)) → obs.length = many → es.length = many →
    (∀ (i : Nat) ob r, obs[i]? = some ob → es[i]? = some r → ObOk many i ob r) → StOk H' p c → Keep p c H H' → Q (.ref M) H'
theorem ok__law_objects (T : Top K mg) : FnOk P w K mg base CX0 4 T.a__law_objects T.d__law_objects ["state", "many"]  (sp__law_objects K) := by
  refine T.F__law_objects.ok sc__law_objects (fun vs H Q E h => ?_) (fun cdv A outer s H vs Q E hr h => ?_)
  · obtain ⟨_, _, _, _, rfl, _⟩ := h
    rfl
  · obtain ⟨S, p, c, many, rfl, st, hp, hc, lv, m4, q⟩ := h
    refine ⟨_, (pss_cons (ps_set (i := 2) sc__law_objects.nd rfl (by first | exact Or.inl rfl | exact Or.inr rfl) (pe_lst pa_nil))
  (pss_cons (ps_set (i := 3) sc__law_objects.nd rfl (by first | exact Or.inl rfl | exact Or.inr rfl) (pe_lst pa_nil))
  (pss_cons (ps_for PassesOwn.never rfl (pi_range1 (by rfl) T.m_range (pa_cons (pv 1) pa_nil)) (pg_name (i := 4) sc__law_objects.nd rfl (by first | exact Or.inl rfl | exact Or.inr rfl))
  (pss_cons (ps_set (i := 5) sc__law_objects.nd rfl (by first | exact Or.inl rfl | exact Or.inr rfl) (pe_lst pa_nil))
  (pss_cons (ps_set (i := 6) sc__law_objects.nd rfl (by first | exact Or.inl rfl | exact Or.inr rfl) (pe_lst pa_nil))
  (pss_cons (ps_for PassesOwn.never rfl (pi_range1 (by rfl) T.m_range (pa_cons pe_int pa_nil)) (pg_name (i := 7) sc__law_objects.nd rfl (by first | exact Or.inl rfl | exact Or.inr rfl))
  (pss_cons (ps_set (i := 8) sc__law_objects.nd rfl (by first | exact Or.inl rfl | exact Or.inr rfl) (pe_call (ok__law_calls T) (hr.mono (by decide)) (by rfl) T.g__law_calls T.F__law_calls.kp T.b__law_calls .nil pass0 (pa_cons (pv 0) (pa_cons (pe_op op_add (pv 4) pe_int) (pa_cons (pv 1) pa_nil)))))
  (pss_cons (ps_expr (pe_bm PySem.F.plainAttrs_list PySem.F.slot_list_append PySem.F.type_list_append mt_append (pv 5) (pa_cons (pe_tup (pa_cons pe_str (pa_cons (pe_op op_add_str pe_str (pe_callTy call_str_int (by rfl) T.m_str (by decide +kernel) (pa_cons (pv 7) pa_nil))) (pa_cons (pe_lst pa_nil) (pa_cons (pe_lst pa_nil) (pa_cons (pe_ix ix_list (pv 8) pe_int (fun _ _ => rfl)) (pa_cons pe_non pa_nil))))))) pa_nil)))
  (pss_one (ps_set (i := 6) sc__law_objects.nd rfl (by first | exact Or.inl rfl | exact Or.inr rfl) (pe_op op_catQ (pv 6) (pe_ix ix_list (pv 8) pe_int (fun _ _ => rfl))))))))
  (pss_cons (ps_expr (pe_bm PySem.F.plainAttrs_list PySem.F.slot_list_append PySem.F.type_list_append mt_append (pv 2) (pa_cons (pe_tup (pa_cons pe_str (pa_cons (pe_op op_add_str pe_str (pe_callTy call_str_int (by rfl) T.m_str (by decide +kernel) (pa_cons (pv 4) pa_nil))) (pa_cons (pe_lst (pa_cons (pe_tup (pa_cons pe_str (pa_cons pe_int pa_nil))) pa_nil)) (pa_cons (pv 5) pa_nil))))) pa_nil)))
  (pss_one (ps_expr (pe_bm PySem.F.plainAttrs_list PySem.F.slot_list_append PySem.F.type_list_append mt_append (pv 3) (pa_cons (pv 6) pa_nil)))))))))
  (pss_one (ps_ret (pe_lst (pa_cons (pv 2) (pa_cons (pv 3) pa_nil)))))))), ?_⟩
    rw [show ∀ a0 a1 : V, L2.start ["state", "many", "objects", "edges", "k", "operations", "row", "j", "made"] [a0, a1] = [some a0, some a1, none, none, none, none, none, none, none] from fun _ _ => rfl]
    walk_at "my rn"
    intro O H1 nO s1 hO
    walk_at "my rn"
    intro Ed H2 nE s2 hE
    have hO2 := s2 _ _ hO
    have OE : O ≠ Ed := fun z => by rw [← z, hO] at nE; cases nE
    have nO0 := lv.off nO
    have nE0 := (lv.same s1).off nE
    have pO : O ≠ p ∧ O ≠ c := ⟨fun z => nO0 (by rw [z]; exact hp), fun z => nO0 (by rw [z]; exact hc)⟩
    have pE : Ed ≠ p ∧ Ed ≠ c := ⟨fun z => nE0 (by rw [z]; exact hp), fun z => nE0 (by rw [z]; exact hc)⟩
    have s12 := s1.trans s2
    walk_at "my rn"
    refine ⟨by omega, by omega, for_it walk_range (fun i σ H' => ∃ (os evs : List V) (obs : List Ob) (es : List (List Nat)) (y4 y5 y6 y7 y8 : Option V), σ = [some (.ref p), some (.int (many : Int)), some (.ref O), some (.ref Ed), y4, y5, y6, y7, y8] ∧ ObsAt K S p c O Ed many i H H' os evs obs es)
      ⟨[], [], [], [], none, none, none, none, none, rfl, hO2, .nil, hE, .nil, rfl, rfl, by simp, st.same s12, Keep.same s12⟩ (fun _ _ _ _ _ => trivial) ?_ ?_⟩
    · rintro i x σ H3o H3 hi ⟨os, evs, obs, es, y4, y5, y6, y7, y8, rfl, oa⟩ yy
      obtain ⟨rfl, e3⟩ := Rd.zr yy
      subst e3
      have hi' : i < many := by omega
      have lv3 : Live (fun a => (S a ∨ a = O) ∨ a = Ed) H3 := ((lv.keepS oa.st oa.kp).or oa.hO).or oa.hE
      have los : os.length = obs.length := by rw [dps_len oa.dO, List.length_map]
      have lev : evs.length = es.length := by rw [dps_len oa.dE, List.length_map]
      have lo := oa.lo
      have le := oa.le
      walk_at "my rn"
      intro Po H4 nP s4 hP
      walk_at "my rn"
      intro R H5 nR s5 hR
      have hP5 := s5 _ _ hP
      have nP0 := lv3.off nP
      have nR0 := (lv3.same s4).off nR
      have RP : R ≠ Po := fun z => by rw [z, hP] at nR; cases nR
      have s45 := s4.trans s5
      have pP : Po ≠ p ∧ Po ≠ c := ⟨fun z => nP0 (.inl (.inl (by rw [z]; exact hp))), fun z => nP0 (.inl (.inl (by rw [z]; exact hc)))⟩
      walk_at "my rn"
      refine ⟨by decide, by decide, for_it walk_range (fun j σ H' => ∃ (ps : List V) (R : Addr) (ops : List Op) (r : List Nat) (y7 y8 : Option V), σ = [some (.ref p), some (.int (many : Int)), some (.ref O), some (.ref Ed), some (.int (i : Int)), some (.ref Po), some (.ref R), y7, y8] ∧ OpsAt K (fun a => (S a ∨ a = O) ∨ a = Ed) p c Po many i H3 H' ps R ops r j)
        ⟨[], R, [], [], _, _, rfl, hP5, .nil, .lst (SqL.of (Cut.at (fun z => z.elim nR0 RP) hR)) .nil, rfl, by simp, by simp, rfl, by simp, oa.st.same s45, Keep.same s45⟩ (fun _ _ _ _ _ => trivial) ?_ ?_⟩
      · rintro j x σ H6o H6 hj ⟨ps, R, ops, r, y7, y8, rfl, pa⟩ yy
        obtain ⟨rfl, e3⟩ := Rd.zr yy
        subst e3
        have lv6 : Live (fun a => ((S a ∨ a = O) ∨ a = Ed) ∨ a = Po) H6 := (lv3.keepS pa.st pa.kp).or pa.hP
        have lps : ps.length = ops.length := by rw [dps_len pa.dP, List.length_map]
        have hj2 : j < 2 := by simpa using hj
        have lops := pa.lops
        have len := pa.len
        walk_at "my rn"
        refine ⟨fun a => ((S a ∨ a = O) ∨ a = Ed) ∨ a = Po, p, c, i + 1, many, by rfl, pa.st, .inl (.inl (.inl hp)), .inl (.inl (.inl hc)), lv6, m4, fun M B Tt b ns H7 nM hM nM0 dB dT ec rg ln nb fb st7 k7 => ?_⟩
        have hP7 := k7 _ _ pP.1 pP.2 pa.hP
        have c67 := cutK (S := fun a => ((S a ∨ a = O) ∨ a = Ed) ∨ a = Po) (.inl (.inl (.inl hp))) (.inl (.inl (.inl hc))) k7
        have lv7 := lv6.keepS st7 k7
        have lf2 : (Str.ofString (toString ((j : Nat) : Int))).length ≤ 18 := dec_str j (by omega)
        walk_at "my rn"
        refine ⟨dec_log j (by omega), _, _, rfl, rfl, Rd.sz (by show 1 + _ ≤ _; omega), ?_⟩
        walk_at "my rn"
        intro e1 H8 n8 s8 h8
        walk_at "my rn"
        intro e2 H9 n9 s9 h9
        have hM9 := s9 _ _ (s8 _ _ hM)
        walk_at "my rn"
        intro tp Ha na sa ha
        have hPa := sa _ _ (s9 _ _ (s8 _ _ hP7))
        walk_at "my rn"
        have s7a := s8.trans (s9.trans sa)
        have MP : M ≠ Po := fun z => by rw [z, pa.hP] at nM; cases nM
        have lv8 := lv7.same s8
        have lv9 := lv8.same s9
        have o8 := lv7.off n8
        have o9 := lv8.off n9
        have oa' := lv9.off na
        refine Rd.app hPa (Rd.szl (by omega)) ?_
        obtain ⟨Hb, eb⟩ : ∃ Hb, Hb = upd Ha Po (.lst (ps ++ [.ref tp])) := ⟨_, rfl⟩
        have hPb : Hb Po = some (.lst (ps ++ [.ref tp])) := by rw [eb]; exact upd_same
        have kb : ∀ b o, b ≠ Po → Ha b = some o → Hb b = some o := fun b o n e => by rw [eb, upd_ne n]; exact e
        have hMb := kb _ _ MP (s7a _ _ hM)
        have cb : Same (Cut (fun a => ((S a ∨ a = O) ∨ a = Ed) ∨ a = Po) H7) (Cut (fun a => ((S a ∨ a = O) ∨ a = Ed) ∨ a = Po) Hb) := Cut.keep fun b o n e => kb b o (fun z => n (.inr z)) (s7a b o e)
        have stb : StOk Hb p c := by rw [eb]; exact (st7.same s7a).off pP.1 pP.2
        rw [← eb]
        have dRb := dp_same (c67.trans cb) pa.dR
        have dTb := dp_same cb dT
        obtain ⟨R', xr, eR, hr1, hr2⟩ := dpL dRb
        cases eR
        obtain ⟨T', xt, eT, ht1, ht2⟩ := dpL dTb
        cases eT
        cases dps_rowI hr2
        cases dps_rowI ht2
        walk_at "my rn"
        refine Rd.catQ (Cut.sub.seq hr1) (Cut.sub.seq ht1) (by rw [List.length_map, List.length_map]; omega) fun R2 Hc nc sc hc2 => ?_
        have cc := Cut.same (S := fun a => ((S a ∨ a = O) ∨ a = Ed) ∨ a = Po) sc
        have lvb : Live (fun a => ((S a ∨ a = O) ∨ a = Ed) ∨ a = Po) Hb := fun a m => by
          by_cases z : a = Po
          · exact ⟨_, by rw [z]; exact hPb⟩
          · obtain ⟨x, e⟩ := lv7 a m
            exact ⟨x, kb a x z (s7a _ _ e)⟩
        refine ⟨ps ++ [.ref tp], R2, ops ++ [⟨"f" ++ Str.ofString (toString ((j : Nat) : Int)), .list [], .list [], b, .none⟩], r ++ ns, _, _, rfl, sc _ _ hPb, ?_, .lst (SqL.of (Cut.at (lvb.off nc) hc2)) ?_, ?_, fun n m => ?_, by rw [List.length_append]; omega, by rw [List.length_append, lops]; rfl, fun x m => ?_, stb.same sc, fun b' o n1 n2 e => ?_⟩
        · rw [List.map_append]
          refine dps_app (dps_same ((c67.trans cb).trans cc) pa.dP) (.cons (dp_same (Cut.same sc) (.tup (SqT.of (Cut.at oa' (kb _ _ (fun z => oa' (.inr z)) ha))) (.cons (.str _) (.cons (.str _) (.cons (.lst (SqL.of (Cut.at o8 (kb _ _ (fun z => o8 (.inr z)) ((s9.trans sa) _ _ h8)))) .nil) (.cons (.lst (SqL.of (Cut.at o9 (kb _ _ (fun z => o9 (.inr z)) (sa _ _ h9)))) .nil) (.cons (dp_same cb dB) (.cons .non .nil)))))))) .nil)
        · rw [List.map_append, ← List.map_append, ← List.map_append]; exact dps_rowN _
        · rw [List.flatMap_append, pa.calls, List.map_append, ← ec]; simp
        · rcases List.mem_append.mp m with m | m
          · exact pa.rg n m
          · have := rg n m; omega
        · rcases List.mem_append.mp m with m | m
          · exact pa.body x m
          · rw [List.mem_singleton.mp m]; exact ⟨nb, fb⟩
        · refine sc _ _ (kb b' o (fun z => ?_) (s7a _ _ (k7 b' o n1 n2 (pa.kp b' o n1 n2 e))))
          rw [z] at e
          rw [nP] at e; cases e
      · rintro σ H6 ⟨ps, R, ops, r, y7, y8, rfl, pa⟩
        have lk2 : (Str.ofString (toString ((i : Nat) : Int))).length ≤ 18 := dec_str i (by omega)
        have lv6 : Live (fun a => ((S a ∨ a = O) ∨ a = Ed) ∨ a = Po) H6 := (lv3.keepS pa.st pa.kp).or pa.hP
        have hP6 := pa.hP
        have hO6 := pa.kp _ _ pO.1 pO.2 oa.hO
        walk_at "my rn"
        refine ⟨dec_log i (by omega), _, _, rfl, rfl, Rd.sz (by show 1 + _ ≤ _; omega), ?_⟩
        walk_at "my rn"
        intro t1 H7 n7 s7 h7
        walk_at "my rn"
        intro l1 H8 n8 s8 h8
        walk_at "my rn"
        intro tp H9 n9 s9 h9
        have s69 := s7.trans (s8.trans s9)
        have hO9 := s69 _ _ (pa.kp _ _ pO.1 pO.2 oa.hO)
        have hE9 := s69 _ _ (pa.kp _ _ pE.1 pE.2 oa.hE)
        have o7 := lv6.off n7
        have o8 := (lv6.same s7).off n8
        have o9 := ((lv6.same s7).same s8).off n9
        walk_at "my rn"
        refine Rd.app hO9 (Rd.szl (by omega)) ?_
        obtain ⟨Hb, eb⟩ : ∃ Hb, Hb = upd H9 O (.lst (os ++ [.ref tp])) := ⟨_, rfl⟩
        have hOb : Hb O = some (.lst (os ++ [.ref tp])) := by rw [eb]; exact upd_same
        have kb : ∀ b o, b ≠ O → H9 b = some o → Hb b = some o := fun b o n e => by rw [eb, upd_ne n]; exact e
        have hEb := kb _ _ OE.symm hE9
        rw [← eb]
        walk_at "my rn"
        refine Rd.app hEb (Rd.szl (by omega)) ?_
        have c36 : Same (Cut (fun a => (S a ∨ a = O) ∨ a = Ed) H3) (Cut (fun a => (S a ∨ a = O) ∨ a = Ed) H6) := cutK (.inl (.inl hp)) (.inl (.inl hc)) pa.kp
        have c6f : Same (Cut (fun a => (S a ∨ a = O) ∨ a = Ed) H6) (Cut (fun a => (S a ∨ a = O) ∨ a = Ed) (upd Hb Ed (.lst (evs ++ [.ref R])))) := Cut.keep fun b o n e => by
          rw [upd_ne (fun z => n (.inr z))]
          exact kb b o (fun z => n (.inl (.inr z))) (s69 _ _ e)
        have up : ∀ b o, ¬ ((S b ∨ b = O) ∨ b = Ed) → H9 b = some o → Cut (fun a => (S a ∨ a = O) ∨ a = Ed) (upd Hb Ed (.lst (evs ++ [.ref R]))) b = some o := fun b o n e => Cut.at n (by
          rw [upd_ne (fun z => n (.inr z))]
          exact kb b o (fun z => n (.inl (.inr z))) e)
        have m3 : Same (Cut (fun a => ((S a ∨ a = O) ∨ a = Ed) ∨ a = Po) H6) (Cut (fun a => (S a ∨ a = O) ∨ a = Ed) H6) := Cut.mono fun a m => .inl m
        have nPo : ¬ ((S Po ∨ Po = O) ∨ Po = Ed) := nP0
        refine ⟨os ++ [.ref tp], evs ++ [.ref R], obs ++ [⟨onm i, .list [.tuple [.str "c", .int 0]], ops⟩], es ++ [r], _, _, _, _, _, rfl, by rw [upd_ne OE]; exact hOb, ?_, upd_same, ?_, by rw [List.length_append, lo]; rfl, by rw [List.length_append, le]; rfl, fun k ob r' g1 g2 => ?_, ?_, fun b o n1 n2 e => ?_⟩
        · rw [List.map_append]
          refine dps_app (dps_same (c36.trans c6f) oa.dO) (.cons (.tup (SqT.of (up _ _ (fun m => o9 (.inl m)) h9)) (.cons (.str _) (.cons (.str _) (.cons (.lst (SqL.of (up _ _ (fun m => o8 (.inl m)) (s9 _ _ h8))) (.cons (.tup (SqT.of (up _ _ (fun m => o7 (.inl m)) ((s8.trans s9) _ _ h7))) (.cons (.str _) (.cons (.int _) .nil))) .nil)) (.cons (.lst (SqL.of (up _ _ nPo (s69 _ _ hP6))) (dps_same (m3.trans c6f) pa.dP)) .nil))))) .nil)
        · rw [List.map_append]
          exact dps_app (dps_same (c36.trans c6f) oa.dE) (.cons (dp_same (m3.trans c6f) pa.dR) .nil)
        · by_cases hk : k < i
          · rw [List.getElem?_append_left (by omega)] at g1 g2
            exact oa.ok k ob r' g1 g2
          · have hk2 := (List.getElem?_eq_some_iff.mp g1).1
            rw [List.length_append, lo] at hk2
            have ek : k = i := by simp at hk2; omega
            subst ek
            rw [List.getElem?_append_right (by omega), lo] at g1
            rw [List.getElem?_append_right (by omega), le] at g2
            simp at g1 g2
            subst g1; subst g2
            have l4 := pa.len
            have l2 := pa.lops
            exact ⟨rfl, pa.calls, pa.rg, by simpa using l4, by show ops.length ≤ 2; rw [l2]; decide, pa.body⟩
        · refine StOk.off ?_ pE.1 pE.2
          rw [eb]
          exact (pa.st.same s69).off pO.1 pO.2
        · rw [upd_ne (fun z => by rw [z, s1.free nE] at e; cases e)]
          exact kb b o (fun z => by rw [z, nO] at e; cases e) (s69 _ _ (pa.kp b o n1 n2 (oa.kp b o n1 n2 e)))
    · rintro σ H3 ⟨os, evs, obs, es, y4, y5, y6, y7, y8, rfl, oa⟩
      walk_at "my rn"
      intro M H4 nM s4 hM
      have lv3 := lv.keepS oa.st oa.kp
      have c4 := Cut.same (S := S) s4
      exact q M O Ed obs es H4 (oa.kp.free oa.st nM) hM (lv3.off nM) (.lst (SqL.of (Cut.at nO0 (s4 _ _ oa.hO))) (dps_same ((Cut.mono fun a m => .inl (.inl m)).trans c4) oa.dO)) (.lst (SqL.of (Cut.at nE0 (s4 _ _ oa.hE))) (dps_same ((Cut.mono fun a m => .inl (.inl m)).trans c4) oa.dE)) (by have := oa.lo; simpa using this) (by have := oa.le; simpa using this) oa.ok (oa.st.same s4) (oa.kp.trans (Keep.same s4))
end

end Mine

set_option Elab.async false
set_option linter.all false
set_option maxRecDepth 100000
set_option maxHeartbeats 1000000

--@@rec _copied _copied_statement

namespace Mine
open PySem PySem.Spec PyProof.Rows L2
local macro_rules | `(tactic| walk_at "my rn") => `(tactic| (repeat (first | with_reducible refine Rd.catQI ?_ | with_reducible refine Rd.revN ?_ | with_reducible refine Rd.lzip ?_ | with_reducible refine Rd.fld ?_ | with_reducible refine Rd.sfld ?_ | with_reducible refine Rd.meth ?_ | with_reducible refine Rd.make ?_ | with_reducible refine Rd.izip ?_ | with_reducible refine Rd.tupN ?_ | with_reducible refine Rd.lstN ?_ | with_reducible refine Rd.cbListOf ?_ | with_reducible refine Rd.cbListOfR ?_ | with_reducible refine Rd.catI ?_ | with_reducible refine Rd.slN ?_ | with_reducible refine Rd.cbSrtI ?_ | with_reducible refine Rd.seq ?_ | with_reducible refine Rd.next ?_ | with_reducible refine Rd.brk ?_ | with_reducible refine Rd.cont ?_ | with_reducible refine Rd.asg ?_ | with_reducible refine Rd.ret ?_ | with_reducible refine Rd.retN ?_ | with_reducible refine Rd.drop ?_ | with_reducible refine Rd.ifs ?_ | with_reducible refine Rd.ife ?_ | with_reducible refine Rd.test ?_ | with_reducible refine Rd.tb_ ?_ | with_reducible refine Rd.bl ?_ | with_reducible refine Rd.bl2 ?_ | with_reducible refine Rd.and_ ?_ | with_reducible refine Rd.or_ ?_ | with_reducible refine Rd.not_ ?_ | with_reducible refine Rd.andV ?_ | with_reducible refine Rd.orV ?_ | with_reducible refine Rd.notV ?_ | with_reducible refine Rd.op ?_ | with_reducible refine Rd.un ?_ | with_reducible refine Rd.I0 ?_ | with_reducible refine Rd.U ?_ | with_reducible refine Rd.ip ?_ | with_reducible refine Rd.c_ ?_ | with_reducible refine Rd.nil ?_ | with_reducible refine Rd.cons ?_ | with_reducible refine Rd.call ?_ | with_reducible refine Rd.cb ?_ | with_reducible refine Rd.bm ?_ | with_reducible refine Rd.bm0 ?_ | with_reducible refine Rd.nopart ?_ | with_reducible refine Rd.part ?_ | with_reducible refine Rd.int1 ?_ | with_reducible refine Rd.ints1 ?_ | with_reducible refine Rd.ints2 ?_ | with_reducible refine Rd.gcons ?_ | with_reducible refine Rd.gnil ?_ | with_reducible refine Rd.sub ?_ | with_reducible refine Rd.isN ?_ | with_reducible refine Rd.chain ?_ | with_reducible refine Rd.rf ?_ | with_reducible refine Rd.tyS ?_ | with_reducible refine Rd.intI ?_ | with_reducible refine Rd.lc ?_ | with_reducible refine Rd.for_ ?_ | with_reducible refine Rd.ilist ?_ | with_reducible refine Rd.itup ?_ | with_reducible refine Rd.irng1 ?_ | with_reducible refine Rd.irng2 ?_ | with_reducible refine Rd.ienum ?_ | with_reducible refine Rd.istr ?_ | with_reducible refine Rd.refA ?_ | with_reducible refine Rd.strA ?_ | with_reducible refine Rd.yes ?_ | with_reducible refine Rd.ifT ?_ | with_reducible refine Rd.ifF ?_ | with_reducible refine Rd.ifnT ?_ | with_reducible refine Rd.ifnF ?_ | with_reducible refine Rd.isi_ii ?_ | with_reducible refine Rd.isi_ib ?_ | with_reducible refine Rd.isi_is ?_ | with_reducible refine Rd.isi_il ?_ | with_reducible refine Rd.isi_it ?_ | with_reducible refine Rd.isi_id ?_ | with_reducible refine Rd.isi_bi ?_ | with_reducible refine Rd.isi_bb ?_ | with_reducible refine Rd.isi_bs ?_ | with_reducible refine Rd.isi_bl ?_ | with_reducible refine Rd.isi_bt ?_ | with_reducible refine Rd.isi_bd ?_ | with_reducible refine Rd.isi_si ?_ | with_reducible refine Rd.isi_sb ?_ | with_reducible refine Rd.isi_ss ?_ | with_reducible refine Rd.isi_sl ?_ | with_reducible refine Rd.isi_st ?_ | with_reducible refine Rd.isi_sd ?_ | with_reducible refine Rd.isi_ni ?_ | with_reducible refine Rd.isi_nb ?_ | with_reducible refine Rd.isi_ns ?_ | with_reducible refine Rd.isi_nl ?_ | with_reducible refine Rd.isi_nt ?_ | with_reducible refine Rd.isi_nd ?_ | with_reducible refine Rd.sl ?_ | with_reducible refine Rd.v0 ?_ | with_reducible refine Rd.v1 ?_ | with_reducible refine Rd.v2 ?_ | with_reducible refine Rd.v3 ?_ | with_reducible refine Rd.v4 ?_ | with_reducible refine Rd.v5 ?_ | with_reducible refine Rd.v6 ?_ | with_reducible refine Rd.v7 ?_ | with_reducible refine Rd.v8 ?_ | with_reducible refine Rd.v9 ?_ | with_reducible refine Rd.v10 ?_ | with_reducible refine Rd.v11 ?_ | with_reducible refine Rd.v12 ?_ | with_reducible refine Rd.v13 ?_ | with_reducible refine Rd.v14 ?_ | with_reducible refine Rd.v15 ?_ | with_reducible refine Rd.v16 ?_ | with_reducible refine Rd.v17 ?_ | with_reducible refine Rd.v18 ?_ | with_reducible refine Rd.v19 ?_ | with_reducible refine Rd.v20 ?_ | with_reducible refine Rd.v21 ?_ | with_reducible refine Rd.v22 ?_ | with_reducible refine Rd.v23 ?_ | with_reducible refine Rd.v24 ?_ | with_reducible refine Rd.v25 ?_ | with_reducible refine Rd.v26 ?_ | with_reducible refine Rd.v27 ?_ | with_reducible refine Rd.n0 ?_ | with_reducible refine Rd.n1 ?_ | with_reducible refine Rd.n2 ?_ | with_reducible refine Rd.n3 ?_ | with_reducible refine Rd.n4 ?_ | with_reducible refine Rd.n5 ?_ | with_reducible refine Rd.n6 ?_ | with_reducible refine Rd.n7 ?_ | with_reducible refine Rd.n8 ?_ | with_reducible refine Rd.n9 ?_ | with_reducible refine Rd.n10 ?_ | with_reducible refine Rd.n11 ?_ | with_reducible refine Rd.n12 ?_ | with_reducible refine Rd.n13 ?_ | with_reducible refine Rd.n14 ?_ | with_reducible refine Rd.n15 ?_ | with_reducible refine Rd.n16 ?_ | with_reducible refine Rd.n17 ?_ | with_reducible refine Rd.n18 ?_ | with_reducible refine Rd.n19 ?_ | with_reducible refine Rd.n20 ?_ | with_reducible refine Rd.n21 ?_ | with_reducible refine Rd.n22 ?_ | with_reducible refine Rd.n23 ?_ | with_reducible refine Rd.n24 ?_ | with_reducible refine Rd.n25 ?_ | with_reducible refine Rd.n26 ?_ | with_reducible refine Rd.n27 ?_ | with_reducible refine Rd.g0 ?_ | with_reducible refine Rd.g1 ?_ | with_reducible refine Rd.g2 ?_ | with_reducible refine Rd.g3 ?_ | with_reducible refine Rd.g4 ?_ | with_reducible refine Rd.g5 ?_ | with_reducible refine Rd.g6 ?_ | with_reducible refine Rd.g7 ?_ | with_reducible refine Rd.g8 ?_ | with_reducible refine Rd.g9 ?_ | with_reducible refine Rd.g10 ?_ | with_reducible refine Rd.g11 ?_ | with_reducible refine Rd.g12 ?_ | with_reducible refine Rd.g13 ?_ | with_reducible refine Rd.g14 ?_ | with_reducible refine Rd.g15 ?_ | with_reducible refine Rd.g16 ?_ | with_reducible refine Rd.g17 ?_ | with_reducible refine Rd.g18 ?_ | with_reducible refine Rd.g19 ?_ | with_reducible refine Rd.g20 ?_ | with_reducible refine Rd.g21 ?_ | with_reducible refine Rd.g22 ?_ | with_reducible refine Rd.g23 ?_ | with_reducible refine Rd.g24 ?_ | with_reducible refine Rd.g25 ?_ | with_reducible refine Rd.g26 ?_ | with_reducible refine Rd.g27 ?_ | ((with_reducible apply Rd.glst); (first | assumption | exact upd_same); exact rfl) | ((with_reducible apply Rd.gtP); assumption; assumption) | ((with_reducible apply Rd.revq); first | assumption | exact SqL.of (by assumption)) | ((with_reducible apply Rd.fldI); (first | assumption | exact upd_same); assumption; assumption; (first | assumption | with_unfolding_all rfl)) | ((with_reducible apply Rd.methI); (first | assumption | exact upd_same); (first | assumption | with_unfolding_all rfl)) | ((with_reducible apply Rd.sfldI); (first | assumption | exact upd_same); assumption; assumption; exact Nat.le_of_ble_eq_true rfl) | ((with_reducible apply Rd.maxL); assumption) | ((with_reducible apply Rd.anyL); assumption) | ((with_reducible apply Rd.sumL); assumption) | ((with_reducible refine Rd.izI (by assumption) (by assumption) ?_)) | ((with_reducible refine Rd.eq ?_ ?_); exact rfl) | ((with_reducible refine Rd.ne ?_ ?_); exact rfl) | ((with_reducible refine Rd.szA ?_ ?_); exact Nat.le_of_ble_eq_true rfl) | ((with_reducible refine Rd.I ?_ ?_); first | assumption | decide | exact Or.inr (by decide +kernel) | exact Or.inl (by decide +kernel) | exact ⟨by decide, by decide⟩ | exact ⟨by decide, by decide, by decide⟩ | omega) | ((with_reducible apply Rd.tyL); first | assumption | exact upd_same) | ((with_reducible apply Rd.tyLq); assumption) | ((with_reducible apply Rd.ixL); (first | assumption | exact upd_same); exact rfl) | ((with_reducible apply Rd.ixT); (first | assumption | exact upd_same); exact rfl) | ((with_reducible apply Rd.ixLq); assumption; exact rfl) | ((with_reducible apply Rd.ixTq); assumption; exact rfl) | ((with_reducible apply Rd.gtup); (first | assumption | exact upd_same); exact rfl) | ((with_reducible apply Rd.gtupq); assumption; exact rfl) | ((with_reducible apply Rd.sqAq); assumption) | ((with_reducible apply Rd.stAq); assumption) | ((with_reducible apply Rd.enAq); assumption) | ((with_reducible apply Rd.lenLq); assumption) | ((with_reducible apply Rd.lenTq); assumption) | ((with_reducible apply Rd.sqA); first | assumption | exact upd_same) | ((with_reducible apply Rd.stA); first | assumption | exact upd_same) | ((with_reducible apply Rd.enA); first | assumption | exact upd_same) | ((with_reducible apply Rd.lenL); first | assumption | exact upd_same) | ((with_reducible apply Rd.lenT); first | assumption | exact upd_same) | ((with_reducible refine Rd.nwT ?_ ?_); exact Nat.le_of_ble_eq_true rfl) | ((with_reducible refine Rd.nwL ?_ ?_); exact Nat.le_of_ble_eq_true rfl) | ((with_reducible apply Rd.listOf); assumption) | ((with_reducible apply Rd.listOfq); assumption) | ((with_reducible apply Rd.slo); assumption) | ((with_reducible apply Rd.slq); assumption) | ((with_reducible apply Rd.srtI); assumption) | ((with_reducible apply Rd.srtIo); assumption) | ((with_reducible refine Rd.isi_li (by assumption) ?_)) | ((with_reducible refine Rd.isi_lb (by assumption) ?_)) | ((with_reducible refine Rd.isi_ls (by assumption) ?_)) | ((with_reducible refine Rd.isi_ll (by assumption) ?_)) | ((with_reducible refine Rd.isi_lt (by assumption) ?_)) | ((with_reducible refine Rd.isi_ld (by assumption) ?_)) | ((with_reducible refine Rd.isi_ti (by assumption) ?_)) | ((with_reducible refine Rd.isi_tb (by assumption) ?_)) | ((with_reducible refine Rd.isi_ts (by assumption) ?_)) | ((with_reducible refine Rd.isi_tl (by assumption) ?_)) | ((with_reducible refine Rd.isi_tt (by assumption) ?_)) | ((with_reducible refine Rd.isi_td (by assumption) ?_)))))
/-! ### reach, by the law -/
def lE (es : List (List Nat)) (k : Nat) : List Nat := es.getD k []
theorem reach_closed {E : Nat → List Nat} {fs : List Nat} (cl : ∀ a ∈ fs, ∀ t ∈ E a, t ∈ fs) {a j : Nat} (h : Reach E a j) : a ∈ fs → j ∈ fs := by
  induction h with
  | refl k => exact id
  | step m _ ih => exact fun ma => ih (cl _ ma _ m)
theorem Reach.trans {E : Nat → List Nat} {a b c : Nat} (h : Reach E a b) (g : Reach E b c) : Reach E a c := by
  induction h with
  | refl k => exact g
  | step m _ ih => exact .step m (ih g)
def natsI (fs : List Nat) : List Int := fs.map fun (n : Nat) => (n : Int)
theorem natsI_mem {fs : List Nat} {n : Nat} : (n : Int) ∈ natsI fs ↔ n ∈ fs := by
  unfold natsI
  rw [List.mem_map]
  constructor
  · rintro ⟨a, m, e⟩
    have : a = n := by omega
    rw [← this]; exact m
  · exact fun m => ⟨n, m, rfl⟩
theorem natsI_V (fs : List Nat) : (natsI fs).map V.int = fs.map fun (n : Nat) => V.int (n : Int) := by
  unfold natsI; rw [List.map_map]; rfl
theorem es_at {K : PySem.W.Frag} {H : Hp} {evs : List V} {es : List (List Nat)} (h : DpAll K H evs (es.map rowD)) {k : Nat} {r : List Nat} (e : es[k]? = some r) : ∃ a, evs[k]? = some (.ref a) ∧ SqL K H a ((natsI r).map V.int) := by
  obtain ⟨v, h1, h2⟩ := dp_at (i := k) h (by rw [List.getElem?_map, e]; rfl)
  obtain ⟨a, xs, rfl, h3, h4⟩ := dpL h2
  rw [dps_rowI h4, ← natsI_V] at h3
  exact ⟨a, h1, h3⟩
section
variable {P : Program} {w : World} {K : PySem.W.Frag} {mg : Str → Option Value} {base : Heap}
def sp__law_reach (K : PySem.W.Frag) : Sp := fun vs H Q _ => ∃ (Ed : Addr) (es : List (List Nat)) (k : Nat), vs = [.ref Ed, .int k] ∧ Dp K H (.ref Ed) (.list (es.map rowD)) ∧ k < es.length ∧ es.length ≤ 4 ∧ (∀ i r, es[i]? = some r → (∀ n ∈ r, i < n ∧ n < es.length) ∧ r.length ≤ 4) ∧
  ∀ (L : Addr) (fs : List Nat) H', Same H H' → H L = none → H' L = some (.lst ((natsI fs).map V.int)) → (∀ j, j ∈ fs ↔ Reach (lE es) k j) → fs.length ≤ 17 → Q (.ref L) H'
theorem ok__law_reach (T : Top K mg) : FnOk P w K mg base CX0 1 T.a__law_reach T.d__law_reach ["edges", "k"]  (sp__law_reach K) := by
  refine T.F__law_reach.ok sc__law_reach (fun vs H Q E h => ?_) (fun cdv A outer s H vs Q E hr h => ?_)
  · obtain ⟨_, _, _, rfl, _⟩ := h
    rfl
  · obtain ⟨Ed, es, k, rfl, dE, hk, m4, ok, q⟩ := h
    refine ⟨_, (pss_cons (ps_set (i := 2) sc__law_reach.nd rfl (by first | exact Or.inl rfl | exact Or.inr rfl) (pe_lst (pa_cons (pv 1) pa_nil)))
  (pss_cons (ps_for PassesOwn.never rfl (pi_range2 (by rfl) T.m_range (pa_cons (pv 1) (pa_cons (pe_callB call_len_seq (by rfl) T.m_len PySem.boot_len (pa_cons (pv 0) pa_nil)) pa_nil))) (pg_name (i := 3) sc__law_reach.nd rfl (by first | exact Or.inl rfl | exact Or.inr rfl))
  (pss_one (ps_if (pt_cmpR op_in_seq (pv 3) (pv 2) (by with_unfolding_all rfl))
  (pss_one (ps_set (i := 2) sc__law_reach.nd rfl (by first | exact Or.inl rfl | exact Or.inr rfl) (pe_op op_catQ (pv 2) (pe_ix ix_list (pv 0) (pv 3) (fun _ _ => rfl)))))
  pss_nil)))
  (pss_one (ps_ret (pv 2))))), ?_⟩
    obtain ⟨_, evs, e0, hE, aE⟩ := dpL dE
    cases e0
    have lev : evs.length = es.length := by rw [dps_len aE, List.length_map]
    rw [show ∀ a0 a1 : V, L2.start ["edges", "k", "found", "at"] [a0, a1] = [some a0, some a1, none, none] from fun _ _ => rfl]
    walk_at "my rn"
    intro R H1 nR s1 hR
    have hE1 := s1.seq hE
    walk_at "my rn"
    refine ⟨⟨by omega, by omega, by omega, by omega⟩, ?_⟩
    rw [show ((evs.length : Int) - (k : Int)).toNat = es.length - k from by omega]
    refine for_it walk_range (fun i σ H' => ∃ (R : Addr) (fs : List Nat) (y3 : Option V), σ = [some (.ref Ed), some (.int (k : Int)), some (.ref R), y3] ∧ Same H H' ∧ H R = none ∧ H' R = some (.lst ((natsI fs).map V.int)) ∧ k ∈ fs ∧ (∀ j ∈ fs, Reach (lE es) k j ∧ k ≤ j ∧ j < es.length) ∧
      (∀ a, a < k + i → a ∈ fs → ∀ t ∈ lE es a, t ∈ fs) ∧ fs.length ≤ 1 + 4 * i) ⟨R, [k], none, rfl, s1, nR, hR, by simp, fun j m => ?_, fun a h m => ?_, by simp⟩ (fun _ _ _ _ _ => trivial) ?_ ?_
    · rw [List.mem_singleton.mp m]; exact ⟨.refl k, Nat.le_refl _, hk⟩
    · rw [List.mem_singleton.mp m] at h; omega
    · rintro i x σ H2o H2 hi ⟨R, fs, y3, rfl, s2, nR, hR2, kf, rf, cl, lf⟩ yy
      obtain ⟨e1, e2⟩ := yy
      subst e1
      have e3 : x = V.int ((k + i : Nat) : Int) := e2.trans (by show V.int ((k : Int) + (i : Int)) = _; rw [Int.natCast_add])
      subst e3
      walk_at "my rn"
      refine Rd.inI hR2 ?_
      walk_at "my rn"
      refine Rd.ifD (fun c => ?_) (fun c => ?_)
      · have c' := natsI_mem.mp c
        have hr : es[k + i]? = some es[k + i] := List.getElem?_eq_getElem (by omega)
        obtain ⟨a, ha, hA⟩ := es_at aE hr
        have eR : lE es (k + i) = es[k + i] := by unfold lE; rw [List.getD_eq_getElem?_getD, hr]; rfl
        obtain ⟨o1, o2⟩ := ok _ _ hr
        walk_at "my rn"
        refine Rd.ixLq (s2.seq hE) (Rd.at_val (j := k + i) rfl ha) ?_
        walk_at "my rn"
        refine Rd.catQ (SqL.of hR2) (s2.seq hA) (by rw [List.length_map, List.length_map]; unfold natsI; rw [List.length_map, List.length_map]; omega) fun R2 H3 n3 s3 h3 => ?_
        refine ⟨R2, fs ++ es[k + i], _, rfl, s2.trans s3, s2.free n3, ?_, List.mem_append_left _ kf, fun j m => ?_, fun a' h m t mt => ?_, by rw [List.length_append]; omega⟩
        · rw [h3]; unfold natsI; simp
        · rcases List.mem_append.mp m with m | m
          · exact rf j m
          · have r1 := (rf _ c').1
            have := o1 j m
            exact ⟨r1.trans (.step (by rw [eR]; exact m) (.refl _)), by omega, by omega⟩
        · rcases List.mem_append.mp m with m | m
          · by_cases z : a' = k + i
            · rw [z, eR] at mt
              exact List.mem_append_right _ mt
            · exact List.mem_append_left _ (cl a' (by omega) m t mt)
          · have := o1 a' m
            omega
      · have c' : k + i ∉ fs := fun m => c (natsI_mem.mpr m)
        walk_at "my rn"
        refine ⟨R, fs, _, rfl, s2, nR, hR2, kf, rf, fun a' h m t mt => ?_, by omega⟩
        by_cases z : a' = k + i
        · exact absurd (z ▸ m) c'
        · exact cl a' (by omega) m t mt
    · rintro σ H2 ⟨R, fs, y3, rfl, s2, nR, hR2, kf, rf, cl, lf⟩
      walk_at "my rn"
      exact q R fs H2 s2 nR hR2 (fun j => ⟨fun m => (rf j m).1, fun h => reach_closed (fun a m => cl a (by have := (rf a m).2.2; omega) m) h kf⟩) (by omega)
end
/-! ### the best of levels -/
structure Best (P : Nat → Prop) (lv : List Int) (c : Int) : Prop where
  ge : ∀ (i : Nat) x, lv[i]? = some x → P i → x ≤ c
  at_ : (c = 0 ∧ ∀ i, i < lv.length → ¬ P i) ∨ ∃ i, lv[i]? = some c ∧ P i
theorem Best.ext {P P' : Nat → Prop} {lv : List Int} {c : Int} (h : Best P lv c) (e : ∀ i, i < lv.length → (P' i ↔ P i)) : Best P' lv c := by
  refine ⟨fun i x hx hp => h.ge i x hx ((e i (List.getElem?_eq_some_iff.mp hx).1).mp hp), ?_⟩
  rcases h.at_ with ⟨a, b⟩ | ⟨i, a, b⟩
  · exact .inl ⟨a, fun i hi hp => b i hi ((e i hi).mp hp)⟩
  · exact .inr ⟨i, a, (e i (List.getElem?_eq_some_iff.mp a).1).mpr b⟩
theorem Best.add {P : Nat → Prop} {lv : List Int} {c x : Int} {k : Nat} (h : Best P lv c) (pos : ∀ y ∈ lv, 0 < y) (hx : lv[k]? = some x) : Best (fun i => P i ∨ i = k) lv (max c x) := by
  have c0 : 0 ≤ c := by
    rcases h.at_ with ⟨a, _⟩ | ⟨i, a, _⟩
    · omega
    · have := pos c (List.mem_of_getElem? a); omega
  refine ⟨fun i y hy hp => ?_, .inr ?_⟩
  · rcases hp with hp | rfl
    · have := h.ge i y hy hp; omega
    · rw [hx] at hy; cases hy; omega
  · by_cases z : x ≤ c
    · rcases h.at_ with ⟨a, _⟩ | ⟨i, a, b⟩
      · have := pos x (List.mem_of_getElem? hx); omega
      · exact ⟨i, by rw [a]; congr 1; omega, .inl b⟩
    · exact ⟨k, by rw [hx]; congr 1; omega, .inr rfl⟩
theorem best_ceil {lv : List Int} {us : List (List Int)} {r : List Int} {P : Nat → Prop} {c d : Int} (pos : ∀ y ∈ lv, 0 < y) (lu : us.length = lv.length) (hb : Best P lv c) (hc : Ceil lv us r d) (e : ∀ (i : Nat) u, us[i]? = some u → (P i ↔ Meet u r)) : c = d := by
  obtain ⟨g, at_⟩ := hc
  have uat : ∀ i, i < lv.length → ∃ u, us[i]? = some u := fun i hi => ⟨_, List.getElem?_eq_getElem (by omega)⟩
  rcases hb.at_ with ⟨a, b⟩ | ⟨i, a, b⟩
  · rcases at_ with ⟨a2, _⟩ | ⟨j, u, h1, h2, h3⟩
    · omega
    · exact absurd ((e j u h2).mpr h3) (b j (List.getElem?_eq_some_iff.mp h1).1)
  · have hi := (List.getElem?_eq_some_iff.mp a).1
    obtain ⟨u, hu⟩ := uat i hi
    have g1 := g i c u a hu ((e i u hu).mp b)
    rcases at_ with ⟨a2, b2⟩ | ⟨j, u2, h1, h2, h3⟩
    · exact absurd ((e i u hu).mp b) (b2 i u hu hi)
    · have := hb.ge j d h1 ((e j u2 h2).mpr h3)
      omega

end Mine

set_option Elab.async false
set_option linter.all false
set_option maxRecDepth 100000
set_option maxHeartbeats 1000000

--@@rec _copied _copied_statement

namespace Mine
open PySem PySem.Spec PyProof.Rows L2
local macro_rules | `(tactic| walk_at "my rn") => `(tactic| (repeat (first | with_reducible refine Rd.catQI ?_ | with_reducible refine Rd.revN ?_ | with_reducible refine Rd.lzip ?_ | with_reducible refine Rd.fld ?_ | with_reducible refine Rd.sfld ?_ | with_reducible refine Rd.meth ?_ | with_reducible refine Rd.make ?_ | with_reducible refine Rd.izip ?_ | with_reducible refine Rd.tupN ?_ | with_reducible refine Rd.lstN ?_ | with_reducible refine Rd.cbListOf ?_ | with_reducible refine Rd.cbListOfR ?_ | with_reducible refine Rd.catI ?_ | with_reducible refine Rd.slN ?_ | with_reducible refine Rd.cbSrtI ?_ | with_reducible refine Rd.seq ?_ | with_reducible refine Rd.next ?_ | with_reducible refine Rd.brk ?_ | with_reducible refine Rd.cont ?_ | with_reducible refine Rd.asg ?_ | with_reducible refine Rd.ret ?_ | with_reducible refine Rd.retN ?_ | with_reducible refine Rd.drop ?_ | with_reducible refine Rd.ifs ?_ | with_reducible refine Rd.ife ?_ | with_reducible refine Rd.test ?_ | with_reducible refine Rd.tb_ ?_ | with_reducible refine Rd.bl ?_ | with_reducible refine Rd.bl2 ?_ | with_reducible refine Rd.and_ ?_ | with_reducible refine Rd.or_ ?_ | with_reducible refine Rd.not_ ?_ | with_reducible refine Rd.andV ?_ | with_reducible refine Rd.orV ?_ | with_reducible refine Rd.notV ?_ | with_reducible refine Rd.op ?_ | with_reducible refine Rd.un ?_ | with_reducible refine Rd.I0 ?_ | with_reducible refine Rd.U ?_ | with_reducible refine Rd.ip ?_ | with_reducible refine Rd.c_ ?_ | with_reducible refine Rd.nil ?_ | with_reducible refine Rd.cons ?_ | with_reducible refine Rd.call ?_ | with_reducible refine Rd.cb ?_ | with_reducible refine Rd.bm ?_ | with_reducible refine Rd.bm0 ?_ | with_reducible refine Rd.nopart ?_ | with_reducible refine Rd.part ?_ | with_reducible refine Rd.int1 ?_ | with_reducible refine Rd.ints1 ?_ | with_reducible refine Rd.ints2 ?_ | with_reducible refine Rd.gcons ?_ | with_reducible refine Rd.gnil ?_ | with_reducible refine Rd.sub ?_ | with_reducible refine Rd.isN ?_ | with_reducible refine Rd.chain ?_ | with_reducible refine Rd.rf ?_ | with_reducible refine Rd.tyS ?_ | with_reducible refine Rd.intI ?_ | with_reducible refine Rd.lc ?_ | with_reducible refine Rd.for_ ?_ | with_reducible refine Rd.ilist ?_ | with_reducible refine Rd.itup ?_ | with_reducible refine Rd.irng1 ?_ | with_reducible refine Rd.irng2 ?_ | with_reducible refine Rd.ienum ?_ | with_reducible refine Rd.istr ?_ | with_reducible refine Rd.refA ?_ | with_reducible refine Rd.strA ?_ | with_reducible refine Rd.yes ?_ | with_reducible refine Rd.ifT ?_ | with_reducible refine Rd.ifF ?_ | with_reducible refine Rd.ifnT ?_ | with_reducible refine Rd.ifnF ?_ | with_reducible refine Rd.isi_ii ?_ | with_reducible refine Rd.isi_ib ?_ | with_reducible refine Rd.isi_is ?_ | with_reducible refine Rd.isi_il ?_ | with_reducible refine Rd.isi_it ?_ | with_reducible refine Rd.isi_id ?_ | with_reducible refine Rd.isi_bi ?_ | with_reducible refine Rd.isi_bb ?_ | with_reducible refine Rd.isi_bs ?_ | with_reducible refine Rd.isi_bl ?_ | with_reducible refine Rd.isi_bt ?_ | with_reducible refine Rd.isi_bd ?_ | with_reducible refine Rd.isi_si ?_ | with_reducible refine Rd.isi_sb ?_ | with_reducible refine Rd.isi_ss ?_ | with_reducible refine Rd.isi_sl ?_ | with_reducible refine Rd.isi_st ?_ | with_reducible refine Rd.isi_sd ?_ | with_reducible refine Rd.isi_ni ?_ | with_reducible refine Rd.isi_nb ?_ | with_reducible refine Rd.isi_ns ?_ | with_reducible refine Rd.isi_nl ?_ | with_reducible refine Rd.isi_nt ?_ | with_reducible refine Rd.isi_nd ?_ | with_reducible refine Rd.sl ?_ | with_reducible refine Rd.v0 ?_ | with_reducible refine Rd.v1 ?_ | with_reducible refine Rd.v2 ?_ | with_reducible refine Rd.v3 ?_ | with_reducible refine Rd.v4 ?_ | with_reducible refine Rd.v5 ?_ | with_reducible refine Rd.v6 ?_ | with_reducible refine Rd.v7 ?_ | with_reducible refine Rd.v8 ?_ | with_reducible refine Rd.v9 ?_ | with_reducible refine Rd.v10 ?_ | with_reducible refine Rd.v11 ?_ | with_reducible refine Rd.v12 ?_ | with_reducible refine Rd.v13 ?_ | with_reducible refine Rd.v14 ?_ | with_reducible refine Rd.v15 ?_ | with_reducible refine Rd.v16 ?_ | with_reducible refine Rd.v17 ?_ | with_reducible refine Rd.v18 ?_ | with_reducible refine Rd.v19 ?_ | with_reducible refine Rd.v20 ?_ | with_reducible refine Rd.v21 ?_ | with_reducible refine Rd.v22 ?_ | with_reducible refine Rd.v23 ?_ | with_reducible refine Rd.v24 ?_ | with_reducible refine Rd.v25 ?_ | with_reducible refine Rd.v26 ?_ | with_reducible refine Rd.v27 ?_ | with_reducible refine Rd.n0 ?_ | with_reducible refine Rd.n1 ?_ | with_reducible refine Rd.n2 ?_ | with_reducible refine Rd.n3 ?_ | with_reducible refine Rd.n4 ?_ | with_reducible refine Rd.n5 ?_ | with_reducible refine Rd.n6 ?_ | with_reducible refine Rd.n7 ?_ | with_reducible refine Rd.n8 ?_ | with_reducible refine Rd.n9 ?_ | with_reducible refine Rd.n10 ?_ | with_reducible refine Rd.n11 ?_ | with_reducible refine Rd.n12 ?_ | with_reducible refine Rd.n13 ?_ | with_reducible refine Rd.n14 ?_ | with_reducible refine Rd.n15 ?_ | with_reducible refine Rd.n16 ?_ | with_reducible refine Rd.n17 ?_ | with_reducible refine Rd.n18 ?_ | with_reducible refine Rd.n19 ?_ | with_reducible refine Rd.n20 ?_ | with_reducible refine Rd.n21 ?_ | with_reducible refine Rd.n22 ?_ | with_reducible refine Rd.n23 ?_ | with_reducible refine Rd.n24 ?_ | with_reducible refine Rd.n25 ?_ | with_reducible refine Rd.n26 ?_ | with_reducible refine Rd.n27 ?_ | with_reducible refine Rd.g0 ?_ | with_reducible refine Rd.g1 ?_ | with_reducible refine Rd.g2 ?_ | with_reducible refine Rd.g3 ?_ | with_reducible refine Rd.g4 ?_ | with_reducible refine Rd.g5 ?_ | with_reducible refine Rd.g6 ?_ | with_reducible refine Rd.g7 ?_ | with_reducible refine Rd.g8 ?_ | with_reducible refine Rd.g9 ?_ | with_reducible refine Rd.g10 ?_ | with_reducible refine Rd.g11 ?_ | with_reducible refine Rd.g12 ?_ | with_reducible refine Rd.g13 ?_ | with_reducible refine Rd.g14 ?_ | with_reducible refine Rd.g15 ?_ | with_reducible refine Rd.g16 ?_ | with_reducible refine Rd.g17 ?_ | with_reducible refine Rd.g18 ?_ | with_reducible refine Rd.g19 ?_ | with_reducible refine Rd.g20 ?_ | with_reducible refine Rd.g21 ?_ | with_reducible refine Rd.g22 ?_ | with_reducible refine Rd.g23 ?_ | with_reducible refine Rd.g24 ?_ | with_reducible refine Rd.g25 ?_ | with_reducible refine Rd.g26 ?_ | with_reducible refine Rd.g27 ?_ | ((with_reducible apply Rd.glst); (first | assumption | exact upd_same); exact rfl) | ((with_reducible apply Rd.gtP); assumption; assumption) | ((with_reducible apply Rd.revq); first | assumption | exact SqL.of (by assumption)) | ((with_reducible apply Rd.fldI); (first | assumption | exact upd_same); assumption; assumption; (first | assumption | with_unfolding_all rfl)) | ((with_reducible apply Rd.methI); (first | assumption | exact upd_same); (first | assumption | with_unfolding_all rfl)) | ((with_reducible apply Rd.sfldI); (first | assumption | exact upd_same); assumption; assumption; exact Nat.le_of_ble_eq_true rfl) | ((with_reducible apply Rd.maxL); assumption) | ((with_reducible apply Rd.anyL); assumption) | ((with_reducible apply Rd.sumL); assumption) | ((with_reducible refine Rd.izI (by assumption) (by assumption) ?_)) | ((with_reducible refine Rd.eq ?_ ?_); exact rfl) | ((with_reducible refine Rd.ne ?_ ?_); exact rfl) | ((with_reducible refine Rd.szA ?_ ?_); exact Nat.le_of_ble_eq_true rfl) | ((with_reducible refine Rd.I ?_ ?_); first | assumption | decide | exact Or.inr (by decide +kernel) | exact Or.inl (by decide +kernel) | exact ⟨by decide, by decide⟩ | exact ⟨by decide, by decide, by decide⟩ | omega) | ((with_reducible apply Rd.tyL); first | assumption | exact upd_same) | ((with_reducible apply Rd.tyLq); assumption) | ((with_reducible apply Rd.ixL); (first | assumption | exact upd_same); exact rfl) | ((with_reducible apply Rd.ixT); (first | assumption | exact upd_same); exact rfl) | ((with_reducible apply Rd.ixLq); assumption; exact rfl) | ((with_reducible apply Rd.ixTq); assumption; exact rfl) | ((with_reducible apply Rd.gtup); (first | assumption | exact upd_same); exact rfl) | ((with_reducible apply Rd.gtupq); assumption; exact rfl) | ((with_reducible apply Rd.sqAq); assumption) | ((with_reducible apply Rd.stAq); assumption) | ((with_reducible apply Rd.enAq); assumption) | ((with_reducible apply Rd.lenLq); assumption) | ((with_reducible apply Rd.lenTq); assumption) | ((with_reducible apply Rd.sqA); first | assumption | exact upd_same) | ((with_reducible apply Rd.stA); first | assumption | exact upd_same) | ((with_reducible apply Rd.enA); first | assumption | exact upd_same) | ((with_reducible apply Rd.lenL); first | assumption | exact upd_same) | ((with_reducible apply Rd.lenT); first | assumption | exact upd_same) | ((with_reducible refine Rd.nwT ?_ ?_); exact Nat.le_of_ble_eq_true rfl) | ((with_reducible refine Rd.nwL ?_ ?_); exact Nat.le_of_ble_eq_true rfl) | ((with_reducible apply Rd.listOf); assumption) | ((with_reducible apply Rd.listOfq); assumption) | ((with_reducible apply Rd.slo); assumption) | ((with_reducible apply Rd.slq); assumption) | ((with_reducible apply Rd.srtI); assumption) | ((with_reducible apply Rd.srtIo); assumption) | ((with_reducible refine Rd.isi_li (by assumption) ?_)) | ((with_reducible refine Rd.isi_lb (by assumption) ?_)) | ((with_reducible refine Rd.isi_ls (by assumption) ?_)) | ((with_reducible refine Rd.isi_ll (by assumption) ?_)) | ((with_reducible refine Rd.isi_lt (by assumption) ?_)) | ((with_reducible refine Rd.isi_ld (by assumption) ?_)) | ((with_reducible refine Rd.isi_ti (by assumption) ?_)) | ((with_reducible refine Rd.isi_tb (by assumption) ?_)) | ((with_reducible refine Rd.isi_ts (by assumption) ?_)) | ((with_reducible refine Rd.isi_tl (by assumption) ?_)) | ((with_reducible refine Rd.isi_tt (by assumption) ?_)) | ((with_reducible refine Rd.isi_td (by assumption) ?_)))))
def udD (w : Int) (k : Nat) (r : List Nat) : PyData := .list [.int w, .int (k : Int), rowD r]
theorem below_gt (ws : List Int) (t j : Nat) : below ws t j = decide (ws.getD t 0 < ws.getD j 0 ∨ (ws.getD j 0 = ws.getD t 0 ∧ (t : Int) < (j : Int))) := by
  unfold below
  by_cases h : ws.getD t 0 < ws.getD j 0 ∨ (ws.getD j 0 = ws.getD t 0 ∧ (t : Int) < (j : Int))
  · rw [decide_eq_true h]
    exact SrtO.lexB_iff.mpr (by simp only; omega)
  · rw [decide_eq_false h]
    exact SrtO.lexB_no.mpr (by simp only; omega)
theorem user_at {K : PySem.W.Frag} {H : Hp} {uv : List V} {ws : List Int} {rs : List (List Nat)} {n : Nat} (h : DpAll K H uv ((List.range n).map fun k => udD (ws.getD k 0) k (rs.getD k []))) {t : Nat} (ht : t < n) :
    ∃ a rr, uv[t]? = some (.ref a) ∧ SqL K H a [.int (ws.getD t 0), .int (t : Int), .ref rr] ∧ Dp K H (.ref rr) (rowD (rs.getD t [])) := by
  obtain ⟨v, h1, h2⟩ := dp_at (i := t) h (by rw [List.getElem?_map, List.getElem?_range ht]; rfl)
  obtain ⟨a, xs, rfl, h3, h4⟩ := dpL h2
  obtain ⟨v0, x0, rfl, d0, h4⟩ := dp1 h4
  obtain ⟨v1, x0, rfl, d1, h4⟩ := dp1 h4
  obtain ⟨v2, x0, rfl, d2, h4⟩ := dp1 h4
  cases dp0 h4
  cases dpI d0
  cases dpI d1
  obtain ⟨rr, xs, rfl, h5, h6⟩ := dpL d2
  exact ⟨a, rr, h1, h3, .lst h5 h6⟩
structure TkOk (many : Nat) (t : Task) (r : List Nat) : Prop where
  calls : callsN t.body = r.map onm
  rg : ∀ n ∈ r, n < many
  len : r.length ≤ 2
  body : nests t.body ≤ 2 ∧ (flats t.body).length ≤ 6
/-- tasks and users under way -/
structure TksAt (K : PySem.W.Frag) (S : Addr → Prop) (p c T U : Addr) (many i : Nat) (H H' : Hp) (tv uv : List V) (tks : List Task) (rs : List (List Nat)) : Prop where
  hT : H' T = some (.lst tv)
  dT : DpAll K (Cut (fun a => (S a ∨ a = T) ∨ a = U) H') tv (tks.map Task.d)
  hU : H' U = some (.lst uv)
  dU : DpAll K (Cut (fun a => (S a ∨ a = T) ∨ a = U) H') uv ((List.range i).map fun k => udD ((tks.map Task.within).getD k 0) k (rs.getD k []))
  lt : tks.length = i
  lr : rs.length = i
  ok : ∀ (i : Nat) t r, tks[i]? = some t → rs[i]? = some r → TkOk many t r
  st : StOk H' p c
  kp : Keep p c H H'
def MeetN (es : List (List Nat)) (a b : Nat) : Prop := ∃ j, Reach (lE es) a j ∧ Reach (lE es) b j
theorem meet_len {es : List (List Nat)} {a b : Nat} {fs os : List Nat} (h1 : ∀ j, j ∈ fs ↔ Reach (lE es) a j) (h2 : ∀ j, j ∈ os ↔ Reach (lE es) b j) : (0 : Int) < (((natsI fs).filter fun x => decide (x ∈ natsI os)).length : Int) ↔ MeetN es a b := by
  constructor
  · intro h
    cases e : (natsI fs).filter fun x => decide (x ∈ natsI os) with
    | nil => rw [e] at h; exact absurd h (by decide)
    | cons x r =>
      have m : x ∈ (natsI fs).filter fun x => decide (x ∈ natsI os) := by rw [e]; exact List.mem_cons_self
      obtain ⟨m1, m2⟩ := List.mem_filter.mp m
      have m3 := of_decide_eq_true m2
      obtain ⟨j, mj, rfl⟩ := List.mem_map.mp m1
      exact ⟨j, (h1 j).mp mj, (h2 j).mp (natsI_mem.mp m3)⟩
  · rintro ⟨j, g1, g2⟩
    have m : (j : Int) ∈ (natsI fs).filter fun x => decide (x ∈ natsI os) := List.mem_filter.mpr ⟨natsI_mem.mpr ((h1 j).mpr g1), decide_eq_true (natsI_mem.mpr ((h2 j).mpr g2))⟩
    cases e : (natsI fs).filter fun x => decide (x ∈ natsI os) with
    | nil => rw [e] at m; cases m
    | cons x r => simp
theorem nums_pos (ws : List Int) (m : Nat) : ∀ y ∈ numsOf ws m, 0 < y := by
  intro y h
  unfold numsOf at h
  rcases List.mem_append.mp h with h | h
  · obtain ⟨t, _, rfl⟩ := List.mem_map.mp h; omega
  · obtain ⟨t, _, rfl⟩ := List.mem_map.mp h; omega
def SB (p c I Lv Rw : Addr) (a : Addr) : Prop := (((a = p ∨ a = c) ∨ a = I) ∨ a = Lv) ∨ a = Rw
/-- interrupts, levels and rows under way -/
structure IrAt (K : PySem.W.Frag) (p c I Lv Rw : Addr) (many i : Nat) (ws : List Int) (rs : List (List Nat)) (H H' : Hp) (iv rv : List V) (irs : List Intr) (ats : List Nat) : Prop where
  hI : H' I = some (.lst iv)
  dI : DpAll K (Cut (SB p c I Lv Rw) H') iv (irs.map Intr.d)
  hL : H' Lv = some (.lst ((numsOf ws irs.length).map V.int))
  hR : H' Rw = some (.lst rv)
  dR : DpAll K (Cut (SB p c I Lv Rw) H') rv ((rs ++ ats.map fun a => [a]).map rowD)
  la : irs.length = ats.length
  le : ats.length ≤ i
  ob : ∀ (k : Nat) t a, irs[k]? = some t → ats[k]? = some a → t.obj = onm a ∧ a < many
  st : StOk H' p c
  kp : ∀ b o, ¬ SB p c I Lv Rw b → H b = some o → H' b = some o

theorem idx_onm : ∀ n < 5, ∀ j < 5, j < n → findN ((List.range n).map onm) (onm j) = (j : Int) := by decide +kernel
theorem names_of {many : Nat} {obs : List Ob} {es : List (List Nat)} (lo : obs.length = many) (le : es.length = many) (ook : ∀ (i : Nat) ob r, obs[i]? = some ob → es[i]? = some r → ObOk many i ob r) : obs.map Ob.name = (List.range many).map onm := by
  refine List.ext_getElem? fun i => ?_
  rw [List.getElem?_map, List.getElem?_map]
  by_cases hi : i < many
  · have h1 : i < obs.length := by omega
    have h2 : i < es.length := by omega
    have e1 : obs[i]? = some obs[i] := List.getElem?_eq_getElem h1
    have e2 : es[i]? = some es[i] := List.getElem?_eq_getElem h2
    rw [e1, List.getElem?_range hi]
    exact congrArg some (ook i _ _ e1 e2).name
  · rw [List.getElem?_eq_none (by omega), List.getElem?_eq_none (by rw [List.length_range]; omega)]; rfl
theorem map_idx {many : Nat} (m4 : many ≤ 4) {r : List Nat} (h : ∀ n ∈ r, n < many) : (r.map onm).map (fun nm => (findN ((List.range many).map onm) nm).toNat) = r := by
  rw [List.map_map]
  refine (List.map_congr_left fun n m => ?_).trans (List.map_id r)
  show (findN ((List.range many).map onm) (onm n)).toNat = id n
  rw [idx_onm many (by omega) n (by have := h n m; omega) (h n m)]
  rfl
theorem onm_mem {many n : Nat} (h : n < many) : onm n ∈ (List.range many).map onm := List.mem_map.mpr ⟨n, List.mem_range.mpr h, rfl⟩
def lawPg (obs : List Ob) (tks : List Task) (irs : List Intr) : Pg := ⟨.str "system", .str "s", .list [], obs, tks, irs⟩
structure LawP (many : Nat) (obs : List Ob) (es : List (List Nat)) (tks : List Task) (rs : List (List Nat)) (irs : List Intr) (ats : List Nat) : Prop where
  m4 : many ≤ 4
  lo : obs.length = many
  le : es.length = many
  ook : ∀ (i : Nat) ob r, obs[i]? = some ob → es[i]? = some r → ObOk many i ob r
  lt : tks.length ≤ 5
  lr : rs.length = tks.length
  tok : ∀ (i : Nat) t r, tks[i]? = some t → rs[i]? = some r → TkOk many t r
  la : irs.length = ats.length
  l3 : ats.length ≤ 3
  iok : ∀ (k : Nat) t a, irs[k]? = some t → ats[k]? = some a → t.obj = onm a ∧ a < many
section
variable {many : Nat} {obs : List Ob} {es : List (List Nat)} {tks : List Task} {rs : List (List Nat)} {irs : List Intr} {ats : List Nat}
theorem LawP.E (h : LawP many obs es tks rs irs ats) (k : Nat) : (lawPg obs tks irs).E k = lE es k := by
  unfold Pg.E
  show (obs[k]?.elim [] Ob.calls).map (fun nm => (findN (obs.map Ob.name) nm).toNat) = es.getD k []
  rw [names_of h.lo h.le h.ook, List.getD_eq_getElem?_getD]
  by_cases hk : k < many
  · have h1 : k < obs.length := by rw [h.lo]; exact hk
    have h2 : k < es.length := by rw [h.le]; exact hk
    have e1 : obs[k]? = some obs[k] := List.getElem?_eq_getElem h1
    have e2 : es[k]? = some es[k] := List.getElem?_eq_getElem h2
    have ok := h.ook k _ _ e1 e2
    rw [e1, e2]
    show (obs[k].calls).map _ = es[k]
    rw [ok.calls]
    exact map_idx h.m4 fun n m => (ok.rg n m).2
  · rw [List.getElem?_eq_none (by rw [h.lo]; omega), List.getElem?_eq_none (by rw [h.le]; omega)]; rfl
theorem LawP.w (h : LawP many obs es tks rs irs ats) : PgW (lawPg obs tks irs) := by
  have hn : (lawPg obs tks irs).names = (List.range many).map onm := names_of h.lo h.le h.ook
  have m4 := h.m4
  have lo : (lawPg obs tks irs).obs.length = many := h.lo
  have obat : ∀ o ∈ obs, ∃ (i : Nat) (r : List Nat), i < many ∧ ObOk many i o r := fun o m => by
    obtain ⟨i, hi⟩ := List.getElem?_of_mem m
    have h1 := (List.getElem?_eq_some_iff.mp hi).1
    have h2 : i < es.length := by have := h.lo; have := h.le; omega
    exact ⟨i, es[i], by have := h.lo; omega, h.ook i _ _ hi (List.getElem?_eq_getElem h2)⟩
  refine ⟨⟨by rw [lo]; omega, by show tks.length ≤ 60; have := h.lt; omega, by show irs.length ≤ 60; have := h.la; have := h.l3; omega⟩, fun o m => ?_, fun k j m => ?_, fun k => ?_, fun t m => ?_, fun t m => ?_⟩
  · obtain ⟨i, r, hi, ok⟩ := obat o m
    refine ⟨by have := ok.ops; omega, fun x mx => ⟨by have := (ok.body x mx).1; omega, by have := (ok.body x mx).2; omega, fun nm mn => ?_⟩⟩
    have : nm ∈ o.calls := List.mem_flatMap.mpr ⟨x, mx, mn⟩
    rw [ok.calls] at this
    obtain ⟨n, m1, rfl⟩ := List.mem_map.mp this
    rw [hn]; exact onm_mem (ok.rg n m1).2
  · rw [h.E] at m
    unfold lE at m
    rw [List.getD_eq_getElem?_getD] at m
    by_cases hk : k < es.length
    · have e2 : es[k]? = some es[k] := List.getElem?_eq_getElem hk
      have h1 : k < obs.length := by have := h.lo; have := h.le; omega
      have ok := h.ook k _ _ (List.getElem?_eq_getElem h1) e2
      rw [e2] at m
      rw [lo]
      exact ok.rg j m
    · rw [List.getElem?_eq_none (by omega)] at m; simp at m
  · rw [h.E, lo]
    unfold lE
    rw [List.getD_eq_getElem?_getD]
    by_cases hk : k < es.length
    · have e2 : es[k]? = some es[k] := List.getElem?_eq_getElem hk
      have h1 : k < obs.length := by have := h.lo; have := h.le; omega
      have ok := h.ook k _ _ (List.getElem?_eq_getElem h1) e2
      rw [e2]
      have := Nat.mul_le_mul ok.len m4
      show es[k].length * many ≤ 60
      omega
    · rw [List.getElem?_eq_none (by omega)]; simp
  · obtain ⟨i, hi⟩ := List.getElem?_of_mem m
    have h1 : i < tks.length := (List.getElem?_eq_some_iff.mp hi).1
    have h2 : i < rs.length := by have := h.lr; omega
    have ok := h.tok i _ _ hi (List.getElem?_eq_getElem h2)
    refine ⟨⟨by have := ok.body.1; omega, by have := ok.body.2; omega, fun nm mn => ?_⟩, ?_⟩
    · rw [ok.calls] at mn
      obtain ⟨n, m1, rfl⟩ := List.mem_map.mp mn
      rw [hn]; exact onm_mem (ok.rg n m1)
    · rw [lo, ok.calls, List.length_map]
      have := Nat.mul_le_mul ok.len m4
      omega
  · obtain ⟨i, hi⟩ := List.getElem?_of_mem m
    have h1 : i < irs.length := (List.getElem?_eq_some_iff.mp hi).1
    have h2 : i < ats.length := by have := h.la; omega
    obtain ⟨e, l⟩ := h.iok i _ _ hi (List.getElem?_eq_getElem h2)
    rw [e, hn]; exact onm_mem l
theorem LawP.uses (h : LawP many obs es tks rs irs ats) (i : Nat) (nms : List Str) (e : (lawPg obs tks irs).uses[i]? = some nms) : nms = ((rs ++ ats.map fun a => [a]).getD i []).map onm ∧ ∀ n ∈ (rs ++ ats.map fun a => [a]).getD i [], n < many := by
  have e : (tks.map (fun t => callsN t.body) ++ irs.map (fun t => [t.obj]))[i]? = some nms := e
  rw [List.getD_eq_getElem?_getD]
  by_cases hi : i < tks.length
  · have h2 : i < rs.length := by have := h.lr; omega
    rw [List.getElem?_append_left (by rw [List.length_map]; exact hi), List.getElem?_map, List.getElem?_eq_getElem hi] at e
    rw [List.getElem?_append_left h2, List.getElem?_eq_getElem h2]
    cases e
    have ok := h.tok i _ _ (List.getElem?_eq_getElem hi) (List.getElem?_eq_getElem h2)
    exact ⟨ok.calls, ok.rg⟩
  · have lr := h.lr
    rw [List.getElem?_append_right (by rw [List.length_map]; omega), List.length_map, List.getElem?_map] at e
    rw [List.getElem?_append_right (by omega), lr, List.getElem?_map]
    cases z : irs[i - tks.length]? with
    | none => rw [z] at e; cases e
    | some t =>
      rw [z] at e; cases e
      have h1 := (List.getElem?_eq_some_iff.mp z).1
      have h2 : i - tks.length < ats.length := by have := h.la; omega
      have z2 : ats[i - tks.length]? = some ats[i - tks.length] := List.getElem?_eq_getElem h2
      obtain ⟨a, b⟩ := h.iok _ _ _ z z2
      rw [z2]
      exact ⟨by show [t.obj] = [onm _]; rw [a], fun n m => by have m : n ∈ [ats[i - tks.length]] := m; rw [List.mem_singleton.mp m]; exact b⟩
/-- a used row and a reached row meet where the law says so -/
theorem LawP.meet (h : LawP many obs es tks rs irs ats) {i k : Nat} {nms : List Str} {u r : List Int} (e : (lawPg obs tks irs).uses[i]? = some nms) (hu : IsUse (lawPg obs tks irs) nms u) (hr : IsRow (lawPg obs tks irs).E k r) :
    (∃ a ∈ (rs ++ ats.map fun a => [a]).getD i [], MeetN es a k) ↔ Meet u r := by
  have hn : (lawPg obs tks irs).names = (List.range many).map onm := names_of h.lo h.le h.ook
  have eE : (lawPg obs tks irs).E = lE es := funext h.E
  obtain ⟨e1, e2⟩ := h.uses i nms e
  have idx : ∀ n < many, (findN (lawPg obs tks irs).names (onm n)).toNat = n := fun n hn' => by
    rw [hn, idx_onm many (by have := h.m4; omega) n (by have := h.m4; omega) hn']; rfl
  rw [eE] at hr
  constructor
  · rintro ⟨a, ma, j, g1, g2⟩
    refine ⟨j, (hu.2 j).mpr ⟨j, rfl, onm a, ?_, ?_⟩, (hr.2 j).mpr ⟨j, rfl, g2⟩⟩
    · rw [e1]; exact List.mem_map.mpr ⟨a, ma, rfl⟩
    · rw [idx a (e2 a ma), eE]; exact g1
  · rintro ⟨y, m1, m2⟩
    obtain ⟨j, rfl, nm, m3, g1⟩ := (hu.2 y).mp m1
    obtain ⟨j2, e3, g2⟩ := (hr.2 _).mp m2
    have ej : j2 = j := by omega
    subst ej
    rw [e1] at m3
    obtain ⟨a, ma, rfl⟩ := List.mem_map.mp m3
    rw [idx a (e2 a ma), eE] at g1
    exact ⟨a, ma, j2, g1, g2⟩
end

section
variable {P : Program} {w : World} {K : PySem.W.Frag} {mg : Str → Option Value} {base : Heap}
def sp_law (K : PySem.W.Frag) : Sp := fun vs H Q _ => ∃ (a : Addr) (ns : List Int), vs = [.ref a] ∧ SqL K H a (ns.map V.int) ∧ ns.length ≤ 63 ∧ ∀ H', Q (.bl true) H'
theorem ok_law (T : Top K mg) : FnOk P w K mg base CX0 26 T.a_law T.d_law ["script"]  (sp_law K) := by
  refine T.F_law.ok sc_law (fun vs H Q E h => ?_) (fun cdv A outer s H vs Q E hr h => ?_)
  · obtain ⟨_, _, rfl, _⟩ := h
    rfl
  · obtain ⟨l, ns, rfl, hS, hlen, q⟩ := h
    refine ⟨_, (pss_cons (ps_set (i := 1) sc_law.nd rfl (by first | exact Or.inl rfl | exact Or.inr rfl) (pe_call (ok__law_state T) (hr.mono (by decide)) (by rfl) T.g__law_state T.F__law_state.kp T.b__law_state .nil pass0 (pa_cons (pv 0) pa_nil)))
  (pss_cons (ps_set (i := 2) sc_law.nd rfl (by first | exact Or.inl rfl | exact Or.inr rfl) (pe_call (ok__law_draw T) (hr.mono (by decide)) (by rfl) T.g__law_draw T.F__law_draw.kp T.b__law_draw .nil pass0 (pa_cons (pv 1) (pa_cons pe_int pa_nil))))
  (pss_cons (ps_asg (pe_call (ok__law_objects T) (hr.mono (by decide)) (by rfl) T.g__law_objects T.F__law_objects.kp T.b__law_objects .nil pass0 (pa_cons (pv 1) (pa_cons (pv 2) pa_nil))) (pg_lst rfl (pgs_cons (pg_name (i := 3) sc_law.nd rfl (by first | exact Or.inl rfl | exact Or.inr rfl)) (pgs_cons (pg_name (i := 4) sc_law.nd rfl (by first | exact Or.inl rfl | exact Or.inr rfl)) pgs_nil))))
  (pss_cons (ps_set (i := 5) sc_law.nd rfl (by first | exact Or.inl rfl | exact Or.inr rfl) (pe_lst pa_nil))
  (pss_cons (ps_set (i := 6) sc_law.nd rfl (by first | exact Or.inl rfl | exact Or.inr rfl) (pe_lst pa_nil))
  (pss_cons (ps_for PassesOwn.never rfl (pi_range1 (by rfl) T.m_range (pa_cons (pe_call (ok__law_draw T) (hr.mono (by decide)) (by rfl) T.g__law_draw T.F__law_draw.kp T.b__law_draw .nil pass0 (pa_cons (pv 1) (pa_cons pe_int pa_nil))) pa_nil)) (pg_name (i := 7) sc_law.nd rfl (by first | exact Or.inl rfl | exact Or.inr rfl))
  (pss_cons (ps_set (i := 8) sc_law.nd rfl (by first | exact Or.inl rfl | exact Or.inr rfl) (pe_call (ok__law_calls T) (hr.mono (by decide)) (by rfl) T.g__law_calls T.F__law_calls.kp T.b__law_calls .nil pass0 (pa_cons (pv 1) (pa_cons pe_int (pa_cons (pv 2) pa_nil)))))
  (pss_cons (ps_set (i := 9) sc_law.nd rfl (by first | exact Or.inl rfl | exact Or.inr rfl) (pe_op op_add pe_int (pe_call (ok__law_draw T) (hr.mono (by decide)) (by rfl) T.g__law_draw T.F__law_draw.kp T.b__law_draw .nil pass0 (pa_cons (pv 1) (pa_cons pe_int pa_nil)))))
  (pss_cons (ps_expr (pe_bm PySem.F.plainAttrs_list PySem.F.slot_list_append PySem.F.type_list_append mt_append (pv 5) (pa_cons (pe_tup (pa_cons pe_str (pa_cons (pe_op op_add_str pe_str (pe_callTy call_str_int (by rfl) T.m_str (by decide +kernel) (pa_cons (pv 7) pa_nil))) (pa_cons pe_int (pa_cons (pv 9) (pa_cons (pe_lst pa_nil) (pa_cons (pe_ix ix_list (pv 8) pe_int (fun _ _ => rfl)) pa_nil))))))) pa_nil)))
  (pss_one (ps_expr (pe_bm PySem.F.plainAttrs_list PySem.F.slot_list_append PySem.F.type_list_append mt_append (pv 6) (pa_cons (pe_lst (pa_cons (pv 9) (pa_cons (pv 7) (pa_cons (pe_ix ix_list (pv 8) pe_int (fun _ _ => rfl)) pa_nil)))) pa_nil))))))))
  (pss_cons (ps_set (i := 10) sc_law.nd rfl (by first | exact Or.inl rfl | exact Or.inr rfl) (pe_lst pa_nil))
  (pss_cons (ps_set (i := 11) sc_law.nd rfl (by first | exact Or.inl rfl | exact Or.inr rfl) (pe_lst pa_nil))
  (pss_cons (ps_for PassesOwn.never rfl (pi_list (pv 6)) (pg_name (i := 12) sc_law.nd rfl (by first | exact Or.inl rfl | exact Or.inr rfl))
  (pss_one (ps_expr (pe_bm PySem.F.plainAttrs_list PySem.F.slot_list_append PySem.F.type_list_append mt_append (pv 11) (pa_cons (pe_op op_add pe_int (pe_callB call_len_seq (by rfl) T.m_len PySem.boot_len (pa_cons (pe_lc (own := [("other", 13)]) (g := gName 13) rfl sc_law.nd (pi_list (pv 6)) (blkOk_by (N := ["script", "state", "many", "objects", "edges", "tasks", "users", "k", "made", "within", "interrupts", "levels", "user", "other", "rows", "at", "due", "own", "best", "who", "thing", "actual", "level"]) (sc := defScope s_law) (by decide +kernel)) (fun _ _ _ _ _ => pg_name (i := 13) sc_law.nd rfl (Or.inl rfl)) (fun _ _ _ _ _ => pts_one (pt_cmpR (show OpR _ (compareOp .Gt) (rGtP K) from op_gtP (Nat.lt_of_le_of_lt (Nat.le_add_right _ 64) hr.units)) (pe_tup (pa_cons (pe_ix (r := rIxL K) ix_list (pv 13) pe_int (fun _ _ => rfl)) (pa_cons (pe_ix (r := rIxL K) ix_list (pv 13) pe_int (fun _ _ => rfl)) pa_nil))) (pe_tup (pa_cons (pe_ix (r := rIxL K) ix_list (pv 12) pe_int (fun _ _ => rfl)) (pa_cons (pe_ix (r := rIxL K) ix_list (pv 12) pe_int (fun _ _ => rfl)) pa_nil))) (nomark _))) (fun _ _ _ _ _ => (pv 13))) pa_nil))) pa_nil)))))
  (pss_cons (ps_setLc (i := 14) (own := [("user", 12)]) (g := gName 12) (tt := tYes) rfl sc_law.nd rfl rfl (sw_true rfl rfl rfl (by decide +kernel)) (pi_list (pv 6)) (blkOk_by (N := ["script", "state", "many", "objects", "edges", "tasks", "users", "k", "made", "within", "interrupts", "levels", "user", "other", "rows", "at", "due", "own", "best", "who", "thing", "actual", "level"]) (sc := defScope s_law) (by decide +kernel)) (fun _ _ _ _ _ => pg_name (i := 12) sc_law.nd rfl (Or.inl rfl)) (fun _ _ _ _ _ => pts_nil) (fun _ _ _ _ _ => (pe_ix (r := rIxL K) ix_list (pv 12) pe_int (fun _ _ => rfl))))
  (pss_cons (ps_for PassesOwn.never rfl (pi_range1 (by rfl) T.m_range (pa_cons (pe_call (ok__law_draw T) (hr.mono (by decide)) (by rfl) T.g__law_draw T.F__law_draw.kp T.b__law_draw .nil pass0 (pa_cons (pv 1) (pa_cons pe_int pa_nil))) pa_nil)) (pg_name (i := 7) sc_law.nd rfl (by first | exact Or.inl rfl | exact Or.inr rfl))
  (pss_one (ps_if (pt_cmpR op_gt (pv 2) pe_int (nomark _))
  (pss_cons (ps_set (i := 15) sc_law.nd rfl (by first | exact Or.inl rfl | exact Or.inr rfl) (pe_call (ok__law_draw T) (hr.mono (by decide)) (by rfl) T.g__law_draw T.F__law_draw.kp T.b__law_draw .nil pass0 (pa_cons (pv 1) (pa_cons (pv 2) pa_nil))))
  (pss_cons (ps_expr (pe_bm PySem.F.plainAttrs_list PySem.F.slot_list_append PySem.F.type_list_append mt_append (pv 10) (pa_cons (pe_tup (pa_cons pe_str (pa_cons (pe_op op_add_str pe_str (pe_callTy call_str_int (by rfl) T.m_str (by decide +kernel) (pa_cons (pv 7) pa_nil))) (pa_cons pe_int (pa_cons pe_int (pa_cons (pe_op op_add_str pe_str (pe_callTy call_str_int (by rfl) T.m_str (by decide +kernel) (pa_cons (pv 15) pa_nil))) (pa_cons (pe_op op_add_str pe_str (pe_callTy call_str_int (by rfl) T.m_str (by decide +kernel) (pa_cons (pe_call (ok__law_draw T) (hr.mono (by decide)) (by rfl) T.g__law_draw T.F__law_draw.kp T.b__law_draw .nil pass0 (pa_cons (pv 1) (pa_cons pe_int pa_nil))) pa_nil))) (pa_cons (pe_lst pa_nil) pa_nil)))))))) pa_nil)))
  (pss_cons (ps_expr (pe_bm PySem.F.plainAttrs_list PySem.F.slot_list_append PySem.F.type_list_append mt_append (pv 11) (pa_cons (pe_op op_sub (pe_op op_add pe_int (pe_callB call_len_seq (by rfl) T.m_len PySem.boot_len (pa_cons (pv 10) pa_nil))) pe_int) pa_nil)))
  (pss_one (ps_expr (pe_bm PySem.F.plainAttrs_list PySem.F.slot_list_append PySem.F.type_list_append mt_append (pv 14) (pa_cons (pe_lst (pa_cons (pv 15) pa_nil)) pa_nil)))))))
  pss_nil)))
  (pss_cons (ps_set (i := 16) sc_law.nd rfl (by first | exact Or.inl rfl | exact Or.inr rfl) (pe_lst pa_nil))
  (pss_cons (ps_for PassesOwn.never rfl (pi_range1 (by rfl) T.m_range (pa_cons (pv 2) pa_nil)) (pg_name (i := 7) sc_law.nd rfl (by first | exact Or.inl rfl | exact Or.inr rfl))
  (pss_cons (ps_set (i := 17) sc_law.nd rfl (by first | exact Or.inl rfl | exact Or.inr rfl) (pe_call (ok__law_reach T) (hr.mono (by decide)) (by rfl) T.g__law_reach T.F__law_reach.kp T.b__law_reach .nil pass0 (pa_cons (pv 4) (pa_cons (pv 7) pa_nil))))
  (pss_cons (ps_set (i := 18) sc_law.nd rfl (by first | exact Or.inl rfl | exact Or.inr rfl) pe_int)
  (pss_cons (ps_for PassesOwn.never rfl (pi_range1 (by rfl) T.m_range (pa_cons (pe_callB call_len_seq (by rfl) T.m_len PySem.boot_len (pa_cons (pv 14) pa_nil)) pa_nil)) (pg_name (i := 19) sc_law.nd rfl (by first | exact Or.inl rfl | exact Or.inr rfl))
  (pss_one (ps_for PassesOwn.never rfl (pi_list (pe_ix ix_list (pv 14) (pv 19) (fun _ _ => rfl))) (pg_name (i := 15) sc_law.nd rfl (by first | exact Or.inl rfl | exact Or.inr rfl))
  (pss_one (ps_if (pt_cmpR op_gt (pe_callB call_len_seq (by rfl) T.m_len PySem.boot_len (pa_cons (pe_lc (own := [("thing", 20)]) (g := gName 20) rfl sc_law.nd (pi_list (pe_call (ok__law_reach T) (hr.mono (by decide)) (by rfl) T.g__law_reach T.F__law_reach.kp T.b__law_reach .nil pass0 (pa_cons (pv 4) (pa_cons (pv 15) pa_nil)))) (blkOk_by (N := ["script", "state", "many", "objects", "edges", "tasks", "users", "k", "made", "within", "interrupts", "levels", "user", "other", "rows", "at", "due", "own", "best", "who", "thing", "actual", "level"]) (sc := defScope s_law) (by decide +kernel)) (fun _ _ _ _ _ => pg_name (i := 20) sc_law.nd rfl (Or.inl rfl)) (fun _ _ _ _ _ => pts_one (pt_cmpR (show OpR _ (compareOp .In) (rIn K false) from op_in_seq) (pv 20) (pv 17) (by with_unfolding_all rfl))) (fun _ _ _ _ _ => (pv 20))) pa_nil)) pe_int (nomark _))
  (pss_one (ps_set (i := 18) sc_law.nd rfl (by first | exact Or.inl rfl | exact Or.inr rfl) (pe_callB (call_max2 rfl) (by rfl) T.m_max (by decide +kernel) (pa_cons (pv 18) (pa_cons (pe_ix ix_list (pv 11) (pv 19) (fun _ _ => rfl)) pa_nil)))))
  pss_nil)))))
  (pss_one (ps_expr (pe_bm PySem.F.plainAttrs_list PySem.F.slot_list_append PySem.F.type_list_append mt_append (pv 16) (pa_cons (pv 18) pa_nil))))))))
  (pss_cons (ps_set (i := 21) sc_law.nd rfl (by first | exact Or.inl rfl | exact Or.inr rfl) (pe_call (ok_ceilings T) (hr.mono (by decide)) (by rfl) T.g_ceilings T.F_ceilings.kp T.b_ceilings .nil pass0 (pa_cons (pe_tup (pa_cons pe_str (pa_cons pe_str (pa_cons (pe_lst pa_nil) (pa_cons (pv 3) (pa_cons (pv 5) (pa_cons (pv 10) pa_nil))))))) pa_nil)))
  (pss_cons (ps_if (pw_or (pt_not (pt_val (pe_callB call_isi (by rfl) T.m_isinstance (by decide +kernel) (pa_cons (pv 21) (pa_cons (pe_ty (T := "list") (by rfl) T.m_list (by decide +kernel)) pa_nil))))) (pw_or1 (pt_cmpR (op_neD hr.units) (pv 21) (pv 16) (nomark _)))).pt
  (pss_one (ps_ret pe_bl))
  pss_nil)
  (pss_one (ps_ret (pe_callB (cr_all rfl) (by rfl) T.m_all (by decide +kernel) (pa_cons (pe_lc (own := [("level", 22)]) (g := gName 22) (tt := tYes) rfl sc_law.nd (pi_list (pv 21)) (blkOk_by (N := ["script", "state", "many", "objects", "edges", "tasks", "users", "k", "made", "within", "interrupts", "levels", "user", "other", "rows", "at", "due", "own", "best", "who", "thing", "actual", "level"]) (sc := defScope s_law) (by decide +kernel)) (fun _ _ _ _ _ => pg_name (i := 22) sc_law.nd rfl (Or.inl rfl)) (fun _ _ _ _ _ => pts_nil) (fun _ _ _ _ _ => (pe_and (pe_callB (show CallR _ (Value.builtin "isinstance") (rIsi K) from call_isi) (by rfl) T.m_isinstance (by decide +kernel) (pa_cons (pv 22) (pa_cons (pe_ty (T := "int") (by rfl) T.m_int (by decide +kernel)) pa_nil))) (pe_one (pe_not (pe_callB (show CallR _ (Value.builtin "isinstance") (rIsi K) from call_isi) (by rfl) T.m_isinstance (by decide +kernel) (pa_cons (pv 22) (pa_cons (pe_ty (T := "bool") (by rfl) T.m_bool (by decide +kernel)) pa_nil)))))))) pa_nil))))))))))))))))))), ?_⟩
    rw [show ∀ a0 : V, L2.start ["script", "state", "many", "objects", "edges", "tasks", "users", "k", "made", "within", "interrupts", "levels", "user", "other", "rows", "at", "due", "own", "best", "who", "thing", "actual", "level"] [a0] = [some a0, none, none, none, none, none, none, none, none, none, none, none, none, none, none, none, none, none, none, none, none, none, none] from fun _ => rfl]
    walk_at "my rn"
    refine ⟨l, ns, rfl, hS, hlen, fun H0 p c s0 np nc st0 => ?_⟩
    walk_at "my rn"
    refine ⟨p, c, 5, rfl, st0, by decide, by decide, fun m H1 m0 m1 st1 k1 => ?_⟩
    obtain ⟨many, rfl⟩ : ∃ n : Nat, m = (n : Int) := ⟨m.toNat, by omega⟩
    have m4 : many ≤ 4 := by omega
    have lvp : ∀ {Hx : Hp}, StOk Hx p c → Live (fun a => a = p ∨ a = c) Hx := fun st a m => by
      obtain ⟨ms, sd, _, hp, hc, _⟩ := st
      rcases m with rfl | rfl
      · exact ⟨_, hp⟩
      · exact ⟨_, hc⟩
    walk_at "my rn"
    refine ⟨fun a => a = p ∨ a = c, p, c, many, rfl, st1, .inl rfl, .inr rfl, lvp st1, m4, fun M O Ed obs es H2 nM hM nM0 dO dE lo le ook st2 k2 => ?_⟩
    walk_at "my rn"
    intro T1 H3 nT s3 hT
    walk_at "my rn"
    intro U H4 nU s4 hU
    have hT4 := s4 _ _ hT
    have TU : T1 ≠ U := fun z => by rw [← z, hT] at nU; cases nU
    have nT0 := (lvp st2).off nT
    have nU0 := ((lvp st2).same s3).off nU
    have s34 := s3.trans s4
    have st4 := st2.same s34
    have pT : T1 ≠ p ∧ T1 ≠ c := ⟨fun z => nT0 (.inl z), fun z => nT0 (.inr z)⟩
    have pU : U ≠ p ∧ U ≠ c := ⟨fun z => nU0 (.inl z), fun z => nU0 (.inr z)⟩
    walk_at "my rn"
    refine ⟨p, c, 6, rfl, st4, by decide, by decide, fun m6 H5 g0 g1 st5 k5 => ?_⟩
    have hT5 := k5 _ _ pT.1 pT.2 hT4
    have hU5 := k5 _ _ pU.1 pU.2 hU
    walk_at "my rn"
    refine ⟨by omega, by omega, for_it walk_range (fun i σ H' => ∃ (tv uv : List V) (tks : List Task) (rs : List (List Nat)) (y7 y8 y9 : Option V), σ = [some (.ref l), some (.ref p), some (.int (many : Int)), some (.ref O), some (.ref Ed), some (.ref T1), some (.ref U), y7, y8, y9, none, none, none, none, none, none, none, none, none, none, none, none, none] ∧
      TksAt K (fun a => a = p ∨ a = c) p c T1 U many i H2 H' tv uv tks rs) ⟨[], [], [], [], none, none, none, rfl, hT5, .nil, hU5, .nil, rfl, rfl, by simp, st5, (Keep.same s34).trans k5⟩ (fun _ _ _ _ _ => trivial) ?_ ?_⟩
    · rintro i x σ H6o H6 hi ⟨tv, uv, tks, rs, y7, y8, y9, rfl, ta⟩ yy
      obtain ⟨rfl, e3⟩ := Rd.zr yy
      subst e3
      have lv6 : Live (fun a => ((a = p ∨ a = c) ∨ a = T1) ∨ a = U) H6 := ((lvp ta.st).or ta.hT).or ta.hU
      have ltv : tv.length = tks.length := by rw [dps_len ta.dT, List.length_map]
      have luv : uv.length = i := by rw [dps_len ta.dU, List.length_map, List.length_range]
      have lt := ta.lt
      have lr := ta.lr
      walk_at "my rn"
      refine ⟨fun a => ((a = p ∨ a = c) ∨ a = T1) ∨ a = U, p, c, 0, many, by rfl, ta.st, .inl (.inl (.inl rfl)), .inl (.inl (.inr rfl)), lv6, m4, fun M7 B Tt b ns7 H7 nM7 hM7 nM7' dB dTt ec rg ln nb fb st7 k7 => ?_⟩
      have lv7 := lv6.keepS st7 k7
      walk_at "my rn"
      refine ⟨p, c, 6, rfl, st7, by decide, by decide, fun wv H8 w0 w1 st8 k8 => ?_⟩
      have lv8 := lv7.keepS st8 k8
      have c68 := cutK (S := fun a => ((a = p ∨ a = c) ∨ a = T1) ∨ a = U) (.inl (.inl (.inl rfl))) (.inl (.inl (.inr rfl))) (k7.trans k8)
      have c78 := cutK (S := fun a => ((a = p ∨ a = c) ∨ a = T1) ∨ a = U) (.inl (.inl (.inl rfl))) (.inl (.inl (.inr rfl))) k8
      have nMpc : M7 ≠ p ∧ M7 ≠ c := ⟨fun z => nM7' (.inl (.inl (.inl z))), fun z => nM7' (.inl (.inl (.inr z)))⟩
      have hM8 := k8 _ _ nMpc.1 nMpc.2 hM7
      have hT8 := (k7.trans k8) _ _ pT.1 pT.2 ta.hT
      have hU8 := (k7.trans k8) _ _ pU.1 pU.2 ta.hU
      have li2 : (Str.ofString (toString ((i : Nat) : Int))).length ≤ 18 := dec_str i (by omega)
      walk_at "my rn"
      refine ⟨dec_log i (by omega), _, _, rfl, rfl, Rd.sz (by show 1 + _ ≤ _; omega), ?_⟩
      walk_at "my rn"
      intro e1 H9 n9 s9 h9
      have hM9 := s9 _ _ hM8
      walk_at "my rn"
      intro tp Ha na sa ha
      have s8a := s9.trans sa
      have hTa := s8a _ _ hT8
      have o9 := lv8.off n9
      have oa := (lv8.same s9).off na
      walk_at "my rn"
      refine Rd.app hTa (Rd.szl (by omega)) ?_
      obtain ⟨Hb, eb⟩ : ∃ Hb, Hb = upd Ha T1 (.lst (tv ++ [.ref tp])) := ⟨_, rfl⟩
      have hTb : Hb T1 = some (.lst (tv ++ [.ref tp])) := by rw [eb]; exact upd_same
      have kb : ∀ b o, b ≠ T1 → Ha b = some o → Hb b = some o := fun b o n e => by rw [eb, upd_ne n]; exact e
      have hUb := kb _ _ TU.symm (s8a _ _ hU8)
      have MT : M7 ≠ T1 := fun z => nM7' (.inl (.inr z))
      have hMb := kb _ _ MT (s8a _ _ hM8)
      rw [← eb]
      walk_at "my rn"
      intro ud Hc nc sc hc
      have hUc := sc _ _ hUb
      have lvb : Live (fun a => ((a = p ∨ a = c) ∨ a = T1) ∨ a = U) Hb := fun a m => by
        by_cases z : a = T1
        · exact ⟨_, by rw [z]; exact hTb⟩
        · obtain ⟨x, e⟩ := lv8 a m
          exact ⟨x, kb a x z (s8a _ _ e)⟩
      have oc := lvb.off nc
      have TUc : T1 ≠ U := TU
      walk_at "my rn"
      refine Rd.app hUc (Rd.szl (by omega)) ?_
      obtain ⟨Hd, ed⟩ : ∃ Hd, Hd = upd Hc U (.lst (uv ++ [.ref ud])) := ⟨_, rfl⟩
      have hUd : Hd U = some (.lst (uv ++ [.ref ud])) := by rw [ed]; exact upd_same
      have kd : ∀ b o, b ≠ U → Hc b = some o → Hd b = some o := fun b o n e => by rw [ed, upd_ne n]; exact e
      rw [← ed]
      have up : ∀ b o, ¬ (((b = p ∨ b = c) ∨ b = T1) ∨ b = U) → Ha b = some o → Cut (fun a => ((a = p ∨ a = c) ∨ a = T1) ∨ a = U) Hd b = some o := fun b o n e => Cut.at n (kd b o (fun z => n (.inr z)) (sc _ _ (kb b o (fun z => n (.inl (.inr z))) e)))
      have c8d : Same (Cut (fun a => ((a = p ∨ a = c) ∨ a = T1) ∨ a = U) H8) (Cut (fun a => ((a = p ∨ a = c) ∨ a = T1) ∨ a = U) Hd) := fun b o e => by
        obtain ⟨n, e⟩ := Cut.get e
        exact up b o n (s8a b o e)
      refine ⟨tv ++ [.ref tp], uv ++ [.ref ud], tks ++ [⟨"t" ++ Str.ofString (toString ((i : Nat) : Int)), .int 9000, 1 + wv, .list [], b⟩], rs ++ [ns7], _, _, _, rfl, kd _ _ TU (sc _ _ hTb), ?_, hUd, ?_, by rw [List.length_append, lt]; rfl, by rw [List.length_append, lr]; rfl, fun k t r g1 g2 => ?_, ?_, fun b' o n1 n2 e => ?_⟩
      · rw [List.map_append]
        exact dps_app (dps_same (c68.trans c8d) ta.dT) (.cons (.tup (SqT.of (up _ _ oa ha)) (.cons (.str _) (.cons (.str _) (.cons (.int _) (.cons (.int _) (.cons (.lst (SqL.of (up _ _ o9 (sa _ _ h9))) .nil) (.cons (dp_same (c78.trans c8d) dB) .nil))))))) .nil)
      · rw [List.range_succ, List.map_append]
        have old : ((List.range i).map fun k => udD (((tks ++ [(⟨"t" ++ Str.ofString (toString ((i : Nat) : Int)), .int 9000, 1 + wv, .list [], b⟩ : Task)]).map Task.within).getD k 0) k ((rs ++ [ns7]).getD k [])) = (List.range i).map fun k => udD ((tks.map Task.within).getD k 0) k (rs.getD k []) := by
          refine List.map_congr_left fun k mk => ?_
          have hk := List.mem_range.mp mk
          rw [List.map_append, List.getD_eq_getElem?_getD, List.getD_eq_getElem?_getD, List.getD_eq_getElem?_getD, List.getD_eq_getElem?_getD, List.getElem?_append_left (by rw [List.length_map]; omega), List.getElem?_append_left (by omega)]
        rw [old]
        refine dps_app (dps_same (c68.trans c8d) ta.dU) (.cons ?_ .nil)
        have e1 : ((tks ++ [(⟨"t" ++ Str.ofString (toString ((i : Nat) : Int)), .int 9000, 1 + wv, .list [], b⟩ : Task)]).map Task.within).getD i 0 = 1 + wv := by
          rw [List.map_append, List.getD_eq_getElem?_getD, List.getElem?_append_right (by rw [List.length_map]; omega), List.length_map, lt, Nat.sub_self]; rfl
        have e2 : (rs ++ [ns7]).getD i [] = ns7 := by
          rw [List.getD_eq_getElem?_getD, List.getElem?_append_right (by omega), lr, Nat.sub_self]; rfl
        show Dp K _ _ (udD _ _ _)
        rw [e1, e2]
        exact .lst (SqL.of (Cut.at oc (kd _ _ (fun z => oc (.inr z)) hc))) (.cons (.int _) (.cons (.int _) (.cons (dp_same (c78.trans c8d) dTt) .nil)))
      · by_cases hk : k < i
        · rw [List.getElem?_append_left (by omega)] at g1 g2
          exact ta.ok k t r g1 g2
        · have hk2 := (List.getElem?_eq_some_iff.mp g1).1
          rw [List.length_append, lt] at hk2
          have ek : k = i := by simp at hk2; omega
          subst ek
          rw [List.getElem?_append_right (by omega), lt] at g1
          rw [List.getElem?_append_right (by omega), lr] at g2
          simp at g1 g2
          subst g1; subst g2
          exact ⟨ec, fun n m => (rg n m).2, ln, nb, fb⟩
      · rw [ed]
        refine StOk.off (StOk.same ?_ sc) pU.1 pU.2
        rw [eb]
        exact (st8.same s8a).off pT.1 pT.2
      · have z1 : b' ≠ T1 := fun z => by rw [z, nT] at e; cases e
        have z2 : b' ≠ U := fun z => by rw [z, s3.free nU] at e; cases e
        exact kd _ _ z2 (sc _ _ (kb _ _ z1 (s8a _ _ (k8 _ _ n1 n2 (k7 _ _ n1 n2 (ta.kp _ _ n1 n2 e))))))
    · rintro σ H6 ⟨tv, uv, tks, rs, y7, y8, y9, rfl, ta⟩
      have lt := ta.lt
      have lr := ta.lr
      have luv : uv.length = m6.toNat := by rw [dps_len ta.dU, List.length_map, List.length_range]
      have hU6 := ta.hU
      have hT6 := ta.hT
      walk_at "my rn"
      intro I H7 nI s7 hI
      walk_at "my rn"
      intro Lv H8 nLv s8 hLv
      have hU8 := s8 _ _ (s7 _ _ hU6)
      have ULv : U ≠ Lv := fun z => by rw [← z, s7 _ _ hU6] at nLv; cases nLv
      walk_at "my rn"
      obtain ⟨ws, ews⟩ : ∃ ws, ws = tks.map Task.within := ⟨_, rfl⟩
      have dU := ta.dU
      rw [← ews] at dU
      obtain ⟨n6, en6⟩ : ∃ n6, n6 = m6.toNat := ⟨_, rfl⟩
      rw [← en6] at dU lt lr luv
      have n6s : n6 ≤ 5 := by omega
      have lws : ws.length = n6 := by rw [ews, List.length_map, lt]
      refine for_it (walk_list (xs := uv)) (fun i σ H' => ∃ (y12 y13 : Option V), σ = [some (.ref l), some (.ref p), some (.int (many : Int)), some (.ref O), some (.ref Ed), some (.ref T1), some (.ref U), y7, y8, y9, some (.ref I), some (.ref Lv), y12, y13, none, none, none, none, none, none, none, none, none] ∧
        Rd.But Lv H8 H' ∧ H' Lv = some (.lst (((List.range i).map fun t => ((rk ws t : Nat) : Int) + 1).map V.int))) ⟨none, none, rfl, Rd.But.refl, hLv⟩ (fun i σ H' _ ⟨_, _, _, b, _⟩ => SqL.of (b _ _ ULv hU8)) ?_ ?_
      · rintro i x σ H9o H9 hi ⟨y12, y13, rfl, b9, hLv9⟩ ⟨rfl, hx⟩
        have old : ∀ {Hx : Hp}, Same H9 Hx → Same (Cut (fun a => ((a = p ∨ a = c) ∨ a = T1) ∨ a = U) H6) Hx := fun s b o e => by
          obtain ⟨_, e⟩ := Cut.get e
          exact s _ _ (b9 b o (fun z => by have e2 := s7 _ _ e; rw [z, nLv] at e2; cases e2) (s8 _ _ (s7 _ _ e)))
        obtain ⟨ua, ur, hua, hus, _⟩ := user_at dU (t := i) (by omega)
        rw [hua] at hx; cases hx
        have hU9 := b9 _ _ ULv hU8
        walk_at "my rn"
        intro D nD
        refine lc_it (walk_list (xs := uv)) (fun j H' => Rd.But D H9 H' ∧ ∃ acc, H' D = some (.lst acc) ∧ acc.length = (List.range j).countP (below ws i)) ⟨Rd.But.at_, [], upd_same, rfl⟩ (fun j H' _ b => (b.1.to nD).seq (SqL.of hU9)) (fun j x Hao Ha hj ⟨ba, acc, hDa, la⟩ ⟨ea, hxa⟩ => ?_) (fun Ha ⟨ba, acc, hDa, la⟩ => ?_)
        · cases ea
          obtain ⟨oa, orr, hoa, hos, _⟩ := user_at dU (t := j) (by omega)
          rw [hoa] at hxa; cases hxa
          have olda := old (ba.to nD)
          have cj : (List.range (j + 1)).countP (below ws i) = (List.range j).countP (below ws i) + if below ws i j = true then 1 else 0 := by
            rw [List.range_succ, List.countP_append, List.countP_singleton]
          have cle : (List.range j).countP (below ws i) ≤ j := by
            have := List.countP_le_length (p := below ws i) (l := List.range j)
            rwa [List.length_range] at this
          simp only [List.map_cons, List.map_nil, L2.wipe, List.set_cons_succ, List.set_cons_zero]
          walk_at "my rn"
          refine ⟨rfl, ?_⟩
          walk_at "my rn"
          refine Rd.ixLq (olda.seq hos) rfl ?_
          walk_at "my rn"
          refine Rd.ixLq (olda.seq hos) rfl ?_
          walk_at "my rn"
          intro t1 Hb nb sb hb
          walk_at "my rn"
          refine Rd.ixLq ((olda.trans sb).seq hus) rfl ?_
          walk_at "my rn"
          refine Rd.ixLq ((olda.trans sb).seq hus) rfl ?_
          walk_at "my rn"
          intro t2 Hc nc sc hc
          have hb2 := sc _ _ hb
          have hDc := sc _ _ (sb _ _ hDa)
          walk_at "my rn"
          rw [← below_gt]
          refine Rd.ifB (fun cc => ?_) (fun cc => ?_)
          · walk_at "my rn"
            refine ⟨acc, hDc, Rd.szl (by omega), (ba.trans (Rd.But.same (sb.trans sc))).trans Rd.But.at_, _, upd_same, ?_⟩
            rw [cj, if_pos cc, List.length_append, la]; rfl
          · refine ⟨ba.trans (Rd.But.same (sb.trans sc)), acc, hDc, ?_⟩
            rw [cj, if_neg (by rw [cc]; decide), la]; rfl
        · have sa := ba.to nD
          have hLa := sa _ _ hLv9
          walk_at "my rn"
          refine Rd.app hLa (Rd.szl (by rw [List.length_map, List.length_map, List.length_range]; omega)) ?_
          refine ⟨_, _, rfl, (b9.trans (Rd.But.same sa)).trans Rd.But.at_, ?_⟩
          rw [upd_same, List.range_succ, List.map_append, List.map_append]
          have e : 1 + (acc.length : Int) = ((rk ws i : Nat) : Int) + 1 := by
            rw [la, luv]; unfold rk; rw [lws]; omega
          rw [e]; rfl
      · rintro σ H9 ⟨y12, y13, rfl, b9, hLv9⟩
        rw [luv] at hLv9
        have hU9 := b9 _ _ ULv hU8
        walk_at "my rn"
        have s69 : Same H6 H9 := fun b o e => b9 b o (fun z => by have e2 := s7 _ _ e; rw [z, nLv] at e2; cases e2) (s8 _ _ (s7 _ _ e))
        intro Rw nRw
        refine Rd.lc_rel (walk_list (xs := uv)) (fun i v _ => ∃ rr, v = .ref rr ∧ Dp K (Cut (fun a => ((a = p ∨ a = c) ∨ a = T1) ∨ a = U) H6) (.ref rr) (rowD (rs.getD i []))) nRw (by omega) (fun i v Ha Hb h _ => h) (fun Ha b => (b.to nRw).seq (SqL.of hU9)) (fun i x Hbo Hb Kt hi b hDl y kt => ?_) (fun Hb rv lrv hrv sb hRw => ?_)
        · obtain ⟨rfl, hx⟩ := y
          obtain ⟨ua, ur, hua, hus, hur⟩ := user_at dU (t := i) (by omega)
          rw [hua] at hx; cases hx
          have o6 : Same (Cut (fun a => ((a = p ∨ a = c) ∨ a = T1) ∨ a = U) H6) Hb := Cut.sub.trans (s69.trans (b.to nRw))
          simp only [List.map_cons, List.map_nil, L2.wipe, List.set_cons_succ, List.set_cons_zero]
          walk_at "my rn"
          refine ⟨rfl, ?_⟩
          walk_at "my rn"
          refine Rd.ixLq (o6.seq hus) rfl ?_
          exact kt _ _ ⟨ur, rfl, hur⟩ (Same.refl _)
        · have s6b := s69.trans sb
          have stb := ta.st.same s6b
          have hLb := sb _ _ hLv9
          have hIb := sb _ _ (b9 _ _ (fun z => by rw [z] at hI; rw [hI] at nLv; cases nLv) (s8 _ _ hI))
          have nI6 : H6 I = none := nI
          have nL6 : H6 Lv = none := s7.free nLv
          have nR6 : H6 Rw = none := s69.free nRw
          have ILv : I ≠ Lv := fun z => by rw [z] at hI; rw [hI] at nLv; cases nLv
          have IRw : I ≠ Rw := fun z => by
            have := b9 _ _ ILv (s8 _ _ hI)
            rw [z, nRw] at this; cases this
          have LRw : Lv ≠ Rw := fun z => by rw [z, nRw] at hLv9; cases hLv9
          have live6 := ((lvp ta.st).or ta.hT).or ta.hU
          have pI : I ≠ p ∧ I ≠ c := ⟨fun z => live6.off nI6 (.inl (.inl (.inl z))), fun z => live6.off nI6 (.inl (.inl (.inr z)))⟩
          have pL : Lv ≠ p ∧ Lv ≠ c := ⟨fun z => live6.off nL6 (.inl (.inl (.inl z))), fun z => live6.off nL6 (.inl (.inl (.inr z)))⟩
          have pR : Rw ≠ p ∧ Rw ≠ c := ⟨fun z => live6.off nR6 (.inl (.inl (.inl z))), fun z => live6.off nR6 (.inl (.inl (.inr z)))⟩
          have to6 : ∀ b o, ((b = p ∨ b = c) → False) → H6 b = some o → Cut (SB p c I Lv Rw) Hb b = some o := fun b o n e => Cut.at (by
            rintro (((z | rfl) | rfl) | rfl)
            · exact n z
            · rw [nI6] at e; cases e
            · rw [nL6] at e; cases e
            · rw [nR6] at e; cases e) (s6b _ _ e)
          have dR0 : DpAll K (Cut (SB p c I Lv Rw) Hb) rv (rs.map rowD) := dps_of (by rw [lrv, luv, List.length_map, lr]) fun i v d h1 h2 => by
            obtain ⟨rr, rfl, hd⟩ := hrv i v h1
            rw [List.getElem?_map] at h2
            cases z : rs[i]? with
            | none => rw [z] at h2; cases h2
            | some r =>
              rw [z] at h2; cases h2
              rw [List.getD_eq_getElem?_getD, z] at hd
              exact dp_same (fun b o e => by obtain ⟨n, e⟩ := Cut.get e; exact to6 b o (fun m => n (.inl (.inl m))) e) hd
          have nums0 : numsOf ws 0 = (List.range n6).map fun t => ((rk ws t : Nat) : Int) + 1 := by unfold numsOf; rw [lws]; simp
          have liveSB : ∀ {Hx : Hp} {iv rv : List V} {irs : List Intr} {ats : List Nat} {i : Nat}, IrAt K p c I Lv Rw many i ws rs Hb Hx iv rv irs ats → Live (SB p c I Lv Rw) Hx := fun h => (((lvp h.st).or h.hI).or h.hL).or h.hR
          walk_at "my rn"
          refine ⟨p, c, 3, rfl, stb, by decide, by decide, fun m3 Hc c0 c1 stc kc => ?_⟩
          have ccS := cutK (S := SB p c I Lv Rw) (.inl (.inl (.inl (.inl rfl)))) (.inl (.inl (.inl (.inr rfl)))) kc
          walk_at "my rn"
          refine ⟨by omega, by omega, for_it walk_range (fun i σ H' => ∃ (iv rv : List V) (irs : List Intr) (ats : List Nat) (y7 y12 y15 : Option V), σ = [some (.ref l), some (.ref p), some (.int (many : Int)), some (.ref O), some (.ref Ed), some (.ref T1), some (.ref U), y7, y8, y9, some (.ref I), some (.ref Lv), y12, y13, some (.ref Rw), y15, none, none, none, none, none, none, none] ∧
            IrAt K p c I Lv Rw many i ws rs Hb H' iv rv irs ats) ⟨[], rv, [], [], _, _, none, rfl, kc _ _ pI.1 pI.2 hIb, .nil, ?_, kc _ _ pR.1 pR.2 hRw, by rw [List.map_nil, List.append_nil]; exact dps_same ccS dR0, rfl, Nat.zero_le _, by simp, stc, fun b o n e => kc b o (fun z => n (.inl (.inl (.inl (.inl z))))) (fun z => n (.inl (.inl (.inl (.inr z))))) e⟩ (fun _ _ _ _ _ => trivial) ?_ ?_⟩
          · show Hc Lv = some (.lst ((numsOf ws 0).map V.int))
            rw [nums0]; exact kc _ _ pL.1 pL.2 hLb
          · rintro i x σ Hdo Hd hi ⟨iv, rv, irs, ats, y7, y12, y15, rfl, ia⟩ yy
            obtain ⟨rfl, e3⟩ := Rd.zr yy
            subst e3
            have i3 : i < 3 := by omega
            have lvd := liveSB ia
            have liv : iv.length = irs.length := by rw [dps_len ia.dI, List.length_map]
            have lrv2 : rv.length = n6 + ats.length := by rw [dps_len ia.dR, List.length_map, List.length_append, List.length_map, lr]
            have la := ia.la
            have leA := ia.le
            have hLd := ia.hL
            have lnum : (numsOf ws irs.length).length = n6 + irs.length := by rw [numsOf_len', lws]
            walk_at "my rn"
            refine Rd.ifD (fun cm => ?_) (fun cm => ?_)
            · walk_at "my rn"
              refine ⟨p, c, _, rfl, ia.st, by omega, by omega, fun av He a0 a1 ste ke => ?_⟩
              obtain ⟨at_, rfl⟩ : ∃ n : Nat, av = (n : Int) := ⟨av.toNat, by omega⟩
              have hIe := ke _ _ pI.1 pI.2 ia.hI
              have li2 : (Str.ofString (toString ((i : Nat) : Int))).length ≤ 18 := dec_str i (by omega)
              have la2 : (Str.ofString (toString ((at_ : Nat) : Int))).length ≤ 18 := dec_str at_ (by omega)
              walk_at "my rn"
              refine ⟨dec_log i (by omega), _, _, rfl, rfl, Rd.sz (by show 1 + _ ≤ _; omega), ?_⟩
              walk_at "my rn"
              refine ⟨dec_log at_ (by omega), _, _, rfl, rfl, Rd.sz (by show 1 + _ ≤ _; omega), ?_⟩
              walk_at "my rn"
              refine ⟨p, c, 2, rfl, ste, by decide, by decide, fun f Hf f0 f1 stf kf => ?_⟩
              obtain ⟨fn, rfl⟩ : ∃ n : Nat, f = (n : Int) := ⟨f.toNat, by omega⟩
              have lf2 : (Str.ofString (toString ((fn : Nat) : Int))).length ≤ 18 := dec_str fn (by omega)
              have kef := ke.trans kf
              have lvf := lvd.keepS stf kef
              refine ⟨_, rfl, dec_log fn (by omega), _, _, rfl, rfl, Rd.sz (by show 1 + _ ≤ _; omega), ?_⟩
              walk_at "my rn"
              intro e1 Hg ng sg hg
              walk_at "my rn"
              intro tp Hh nh sh hh
              have sgh := sg.trans sh
              have hIh := sgh _ _ (kef _ _ pI.1 pI.2 ia.hI)
              have og := lvf.off ng
              have oh := (lvf.same sg).off nh
              walk_at "my rn"
              refine Rd.app hIh (Rd.szl (by omega)) ?_
              obtain ⟨Hj, ej⟩ : ∃ Hj, Hj = upd Hh I (.lst (iv ++ [.ref tp])) := ⟨_, rfl⟩
              have hIj : Hj I = some (.lst (iv ++ [.ref tp])) := by rw [ej]; exact upd_same
              have kj : ∀ b o, b ≠ I → Hh b = some o → Hj b = some o := fun b o n e => by rw [ej, upd_ne n]; exact e
              have hLj := kj _ _ ILv.symm (sgh _ _ (kef _ _ pL.1 pL.2 ia.hL))
              rw [← ej]
              walk_at "my rn"
              refine Rd.app hLj (Rd.szl (by rw [List.length_map, lnum]; omega)) ?_
              obtain ⟨Hk, ek⟩ : ∃ Hk, Hk = upd Hj Lv (.lst ((numsOf ws irs.length).map V.int ++ [.int (9 + ((iv ++ [V.ref tp]).length : Int) - 1)])) := ⟨_, rfl⟩
              have hLk : Hk Lv = some (.lst ((numsOf ws irs.length).map V.int ++ [.int (9 + ((iv ++ [V.ref tp]).length : Int) - 1)])) := by rw [ek]; exact upd_same
              have kk : ∀ b o, b ≠ Lv → Hj b = some o → Hk b = some o := fun b o n e => by rw [ek, upd_ne n]; exact e
              have hRk := kk _ _ LRw.symm (kj _ _ IRw.symm (sgh _ _ (kef _ _ pR.1 pR.2 ia.hR)))
              rw [← ek]
              walk_at "my rn"
              intro ra Hl nl sl hl
              have hRl := sl _ _ hRk
              walk_at "my rn"
              refine Rd.app hRl (Rd.szl (by omega)) ?_
              have lvk : Live (SB p c I Lv Rw) Hk := fun a m => by
                by_cases z1 : a = Lv
                · exact ⟨_, by rw [z1]; exact hLk⟩
                by_cases z2 : a = I
                · exact ⟨_, by rw [z2]; exact kk _ _ ILv hIj⟩
                obtain ⟨x, e⟩ := lvf a m
                exact ⟨x, kk a x z1 (kj a x z2 (sgh _ _ e))⟩
              have ol := lvk.off nl
              have up : ∀ b o, ¬ SB p c I Lv Rw b → Hh b = some o → (upd Hl Rw (.lst (rv ++ [.ref ra]))) b = some o := fun b o n e => by
                rw [upd_ne (fun z => n (.inr z))]
                exact sl _ _ (kk b o (fun z => n (.inl (.inr z))) (kj b o (fun z => n (.inl (.inl (.inr z)))) e))
              have cdf := cutK (S := SB p c I Lv Rw) (.inl (.inl (.inl (.inl rfl)))) (.inl (.inl (.inl (.inr rfl)))) kef
              have cfin : Same (Cut (SB p c I Lv Rw) Hf) (Cut (SB p c I Lv Rw) (upd Hl Rw (.lst (rv ++ [.ref ra])))) := Cut.keep fun b o n e => up b o n (sgh _ _ e)
              have nums1 : numsOf ws (irs.length + 1) = numsOf ws irs.length ++ [9 + (irs.length : Int)] := by
                unfold numsOf
                rw [List.range_succ, List.map_append, ← List.append_assoc]; rfl
              refine ⟨iv ++ [.ref tp], rv ++ [.ref ra], irs ++ [⟨"i" ++ Str.ofString (toString ((i : Nat) : Int)), .int 9000, .int 50, onm at_, .str ("f" ++ Str.ofString (toString ((fn : Nat) : Int))), .list []⟩], ats ++ [at_], _, _, _, rfl, ?_, ?_, ?_, upd_same, ?_, by simp [la], by simp; omega, fun k t a h1 h2 => ?_, ?_, fun b o n e => ?_⟩
              · rw [upd_ne IRw]; exact sl _ _ (kk _ _ ILv hIj)
              · rw [List.map_append]
                exact dps_app (dps_same (cdf.trans cfin) ia.dI) (.cons (.tup (SqT.of (Cut.at oh (up _ _ oh hh))) (.cons (.str _) (.cons (.str _) (.cons (.int _) (.cons (.int _) (.cons (.str _) (.cons (.str _) (.cons (.lst (SqL.of (Cut.at og (up _ _ og (sh _ _ hg)))) .nil) .nil)))))))) .nil)
              · rw [upd_ne LRw, List.length_append, List.length_singleton, nums1, List.map_append]
                have e9 : 9 + ((iv ++ [V.ref tp]).length : Int) - 1 = 9 + (irs.length : Int) := by rw [List.length_append, List.length_singleton, liv]; omega
                rw [e9] at hLk
                exact sl _ _ hLk
              · rw [List.map_append (f := fun a => [a]), ← List.append_assoc, List.map_append (f := rowD)]
                refine dps_app (dps_same (cdf.trans cfin) ia.dR) (.cons (.lst (SqL.of (Cut.at ol ?_)) (.cons (.int _) .nil)) .nil)
                rw [upd_ne (fun z => ol (.inr z))]; exact hl
              · by_cases hk : k < irs.length
                · rw [List.getElem?_append_left hk] at h1
                  rw [List.getElem?_append_left (by omega)] at h2
                  exact ia.ob k t a h1 h2
                · have hk2 := (List.getElem?_eq_some_iff.mp h1).1
                  simp at hk2
                  have ek : k = irs.length := by omega
                  rw [ek, List.getElem?_append_right (Nat.le_refl _)] at h1
                  rw [ek, la, List.getElem?_append_right (Nat.le_refl _)] at h2
                  simp at h1 h2
                  subst h1; subst h2
                  exact ⟨rfl, by omega⟩
              · refine StOk.off (StOk.same ?_ sl) pR.1 pR.2
                rw [ek]
                refine StOk.off ?_ pL.1 pL.2
                rw [ej]
                exact (stf.same sgh).off pI.1 pI.2
              · exact up b o n (sgh _ _ (kef b o (fun z => n (.inl (.inl (.inl (.inl z))))) (fun z => n (.inl (.inl (.inl (.inr z))))) (ia.kp b o n e)))
            · walk_at "my rn"
              exact ⟨iv, rv, irs, ats, _, _, _, rfl, ia.hI, ia.dI, ia.hL, ia.hR, ia.dR, ia.la, by omega, ia.ob, ia.st, ia.kp⟩
          · rintro σ Hd ⟨iv, rv, irs, ats, y7, y12, y15, rfl, ia⟩
            obtain ⟨R, eR⟩ : ∃ R, R = rs ++ ats.map fun a => [a] := ⟨_, rfl⟩
            obtain ⟨nums, enums⟩ : ∃ nums, nums = numsOf ws irs.length := ⟨_, rfl⟩
            have hRd := ia.hR
            have dRd := ia.dR
            have hLd := ia.hL
            rw [← eR] at dRd
            rw [← enums] at hLd
            have npos : ∀ y ∈ nums, 0 < y := by rw [enums]; exact nums_pos ws _
            have lR : R.length = nums.length := by rw [eR, enums, numsOf_len', List.length_append, List.length_map, lr, lws, ia.la]
            have lrvR : rv.length = R.length := by rw [dps_len dRd, List.length_map]
            have fewR : R.length ≤ 20 := by
              have := ia.le
              rw [eR, List.length_append, List.length_map, lr]; omega
            have rgR : ∀ (w : Nat) (r : List Nat), R[w]? = some r → (∀ n ∈ r, n < many) ∧ r.length ≤ 2 := fun w r h => by
              rw [eR] at h
              by_cases hw : w < rs.length
              · rw [List.getElem?_append_left hw] at h
                have htl : w < tks.length := by omega
                have ht : tks[w]? = some tks[w] := List.getElem?_eq_getElem htl
                have := ta.ok w _ r ht h
                exact ⟨this.rg, this.len⟩
              · rw [List.getElem?_append_right (by omega), List.getElem?_map] at h
                cases z : ats[w - rs.length]? with
                | none => rw [z] at h; cases h
                | some a =>
                  rw [z] at h; cases h
                  have hil : w - rs.length < irs.length := by rw [ia.la]; exact (List.getElem?_eq_some_iff.mp z).1
                  have hir : irs[w - rs.length]? = some irs[w - rs.length] := List.getElem?_eq_getElem hil
                  have := (ia.ob _ _ a hir z).2
                  exact ⟨fun n m => by rw [List.mem_singleton.mp m]; exact this, by simp⟩
            have esok : ∀ (i : Nat) (r : List Nat), es[i]? = some r → (∀ n ∈ r, i < n ∧ n < es.length) ∧ r.length ≤ 4 := fun i r h => by
              have hol : i < obs.length := by rw [lo, ← le]; exact (List.getElem?_eq_some_iff.mp h).1
              have ho : obs[i]? = some obs[i] := List.getElem?_eq_getElem hol
              have := ook i _ r ho h
              exact ⟨fun n m => by have := this.rg n m; omega, this.len⟩
            have toD : Same (Cut (fun a => a = p ∨ a = c) H2) (Cut (SB p c I Lv Rw) Hd) := fun b o e => by
              obtain ⟨n, e⟩ := Cut.get e
              have e6 := ta.kp b o (fun z => n (.inl z)) (fun z => n (.inr z)) e
              obtain ⟨n2, e2⟩ := Cut.get (to6 b o n e6)
              exact Cut.at n2 (ia.kp b o n2 e2)
            have toD6 : Same (Cut (fun a => ((a = p ∨ a = c) ∨ a = T1) ∨ a = U) H6) (Cut (SB p c I Lv Rw) Hd) := fun b o e => by
              obtain ⟨n, e⟩ := Cut.get e
              obtain ⟨n2, e2⟩ := Cut.get (to6 b o (fun z => n (.inl (.inl z))) e)
              exact Cut.at n2 (ia.kp b o n2 e2)
            have dEd : Dp K Hd (.ref Ed) (.list (es.map rowD)) := dp_same (toD.trans Cut.sub) dE
            have dOd : Dp K Hd (.ref O) (.list (obs.map Ob.d)) := dp_same (toD.trans Cut.sub) dO
            have hTd : Hd T1 = some (.lst tv) := by
              have h6 := ta.hT
              obtain ⟨n2, e2⟩ := Cut.get (to6 _ _ (fun z => z.elim pT.1 pT.2) h6)
              exact ia.kp _ _ n2 e2
            have dTd : Dp K Hd (.ref T1) (.list (tks.map Task.d)) := .lst (SqL.of hTd) (dps_same (toD6.trans Cut.sub) ta.dT)
            have dId : Dp K Hd (.ref I) (.list (irs.map Intr.d)) := .lst (SqL.of ia.hI) (dps_same Cut.sub ia.dI)
            have rowd := fun (w : Nat) (r : List Nat) (h : R[w]? = some r) => es_at dRd h
            walk_at "my rn"
            intro Du He nDu se hDu
            walk_at "my rn"
            refine ⟨by omega, by omega, ?_⟩
            rw [show ((many : Int)).toNat = many from by omega]
            refine for_it walk_range (fun i σ H' => ∃ (ds : List Int) (y7 y15 y17 y18 y19 y20 : Option V), σ = [some (.ref l), some (.ref p), some (.int (many : Int)), some (.ref O), some (.ref Ed), some (.ref T1), some (.ref U), y7, y8, y9, some (.ref I), some (.ref Lv), y12, y13, some (.ref Rw), y15, some (.ref Du), y17, y18, y19, y20, none, none] ∧
              Rd.But Du He H' ∧ H' Du = some (.lst (ds.map V.int)) ∧ ds.length = i ∧ ∀ k c, ds[k]? = some c → Best (fun w => ∃ a ∈ R.getD w [], MeetN es a k) nums c) ⟨[], _, _, _, _, _, _, rfl, Rd.But.refl, hDu, rfl, by simp⟩ (fun _ _ _ _ _ => trivial) ?_ ?_
            · rintro k x σ Hfo Hf hk ⟨ds, y7, y15, y17, y18, y19, y20, rfl, bf, hDf, ld, hb⟩ yy
              obtain ⟨rfl, e3⟩ := Rd.zr yy
              subst e3
              have sdf : Same Hd Hf := fun b o e => bf b o (fun z => by rw [z, nDu] at e; cases e) (se _ _ e)
              walk_at "my rn"
              refine ⟨Ed, es, k, rfl, dp_same sdf dEd, by omega, by omega, esok, fun L own Hg sg nL hL mL lenL => ?_⟩
              have sdg := sdf.trans sg
              have hRg := sdg _ _ hRd
              walk_at "my rn"
              refine ⟨by omega, by omega, ?_⟩
              rw [show ((rv.length : Int)).toNat = R.length from by omega]
              refine for_it walk_range (fun i σ H' => ∃ (c1 : Int) (y15 y19 y20 : Option V), σ = [some (.ref l), some (.ref p), some (.int (many : Int)), some (.ref O), some (.ref Ed), some (.ref T1), some (.ref U), some (.int (k : Int)), y8, y9, some (.ref I), some (.ref Lv), y12, y13, some (.ref Rw), y15, some (.ref Du), some (.ref L), some (.int c1), y19, y20, none, none] ∧
                Same Hg H' ∧ Best (fun w => w < i ∧ ∃ a ∈ R.getD w [], MeetN es a k) nums c1) ⟨0, _, _, _, rfl, Same.refl _, ⟨fun i x _ h => absurd h.1 (Nat.not_lt_zero _), .inl ⟨rfl, fun i _ h => absurd h.1 (Nat.not_lt_zero _)⟩⟩⟩ (fun _ _ _ _ _ => trivial) ?_ ?_
              · rintro who x σ Hho Hh hw ⟨c1, y15, y19, y20, rfl, sh, bb⟩ yy
                obtain ⟨rfl, e3⟩ := Rd.zr yy
                subst e3
                have hRw : R[who]? = some R[who] := List.getElem?_eq_getElem hw
                obtain ⟨ra, hra, hrs⟩ := rowd who _ hRw
                have sdh := sdg.trans sh
                have hRh := sdh _ _ hRd
                have hrd := Cut.sub.seq hrs
                have gR : R.getD who [] = R[who] := by rw [List.getD_eq_getElem?_getD, hRw]; rfl
                walk_at "my rn"
                refine Rd.ixL hRh (Rd.at_val (j := who) rfl hra) ?_
                have hrh := sdh.seq hrd
                walk_at "my rn"
                refine for_it (walk_list (xs := (natsI R[who]).map V.int)) (fun j σ H' => ∃ (c2 : Int) (y15 y20 : Option V), σ = [some (.ref l), some (.ref p), some (.int (many : Int)), some (.ref O), some (.ref Ed), some (.ref T1), some (.ref U), some (.int (k : Int)), y8, y9, some (.ref I), some (.ref Lv), y12, y13, some (.ref Rw), y15, some (.ref Du), some (.ref L), some (.int c2), some (.int (who : Int)), y20, none, none] ∧
                  Same Hg H' ∧ Best (fun w => (w < who ∧ ∃ a ∈ R.getD w [], MeetN es a k) ∨ (w = who ∧ ∃ a ∈ R[who].take j, MeetN es a k)) nums c2) ⟨c1, _, _, rfl, sh, bb.ext fun i _ => ⟨fun h => h.elim id fun h => by obtain ⟨_, a, m, _⟩ := h; simp at m, .inl⟩⟩ (fun j σ H' _ ⟨_, _, _, _, s, _⟩ => (sdg.trans s).seq hrd) ?_ ?_
                · rintro j x σ Hio Hi hj ⟨c2, y15, y20, rfl, si, b2⟩ ⟨rfl, hx⟩
                  obtain ⟨a, ha, rfl⟩ : ∃ a : Nat, R[who][j]? = some a ∧ x = .int (a : Int) := by
                    rw [natsI_V, List.getElem?_map] at hx
                    cases z : R[who][j]? with
                    | none => rw [z] at hx; cases hx
                    | some a => rw [z] at hx; exact ⟨a, rfl, (Option.some.inj hx).symm⟩
                  have am := (rgR who _ hRw).1 a (List.mem_of_getElem? ha)
                  have sdi := sdg.trans si
                  have hLi := si _ _ hL
                  walk_at "my rn"
                  refine ⟨Ed, es, a, rfl, dp_same sdi dEd, by omega, by omega, esok, fun Lx fs Hj sj nLx hLx mLx lenLx => ?_⟩
                  have hLj := sj _ _ hLi
                  walk_at "my rn"
                  intro D nD
                  refine Rd.lc_fl (fun x => decide (x ∈ natsI own)) (SqL.of hLx) nD (by unfold natsI; rw [List.length_map]; omega) (fun i' Hk n Kt Kn hn bk kt kn => ?_) (fun Hk sk hDk => ?_)
                  · have hLk := (bk.to nD) _ _ hLj
                    simp only [List.map_cons, List.map_nil, L2.wipe, List.set_cons_succ, List.set_cons_zero]
                    walk_at "my rn"
                    refine ⟨rfl, ?_⟩
                    walk_at "my rn"
                    refine Rd.inI hLk ?_
                    walk_at "my rn"
                    refine Rd.ifD (fun cc => ?_) (fun cc => ?_)
                    · walk_at "my rn"
                      exact kt (decide_eq_true cc)
                    · exact kn (decide_eq_false cc)
                  · have hLvk := sk _ _ (sj _ _ (sdi _ _ hLd))
                    walk_at "my rn"
                    rw [List.length_map]
                    have tk : ∀ w, (w < who ∧ ∃ a ∈ R.getD w [], MeetN es a k) ∨ (w = who ∧ ∃ a ∈ R[who].take (j + 1), MeetN es a k) ↔ ((w < who ∧ ∃ a ∈ R.getD w [], MeetN es a k) ∨ (w = who ∧ ∃ a ∈ R[who].take j, MeetN es a k)) ∨ (w = who ∧ MeetN es a k) := fun w => by
                      rw [List.take_add_one, ha]
                      constructor
                      · rintro (h | ⟨h, b, m, h2⟩)
                        · exact .inl (.inl h)
                        · rcases List.mem_append.mp m with m | m
                          · exact .inl (.inr ⟨h, b, m, h2⟩)
                          · simp at m; rw [m] at h2; exact .inr ⟨h, h2⟩
                      · rintro ((h | ⟨h, b, m, h2⟩) | ⟨h, h2⟩)
                        · exact .inl h
                        · exact .inr ⟨h, b, List.mem_append_left _ m, h2⟩
                        · exact .inr ⟨h, a, List.mem_append_right _ (by simp), h2⟩
                    refine Rd.ifD (fun cc => ?_) (fun cc => ?_)
                    · have mt := (meet_len mLx mL).mp cc
                      have hnw : nums[who]? = some (nums.getD who 0) := by
                        rw [List.getD_eq_getElem?_getD, List.getElem?_eq_getElem (by rw [← lR]; exact hw)]; rfl
                      walk_at "my rn"
                      refine Rd.ixL hLvk (Rd.at_int (j := who) rfl hnw) ?_
                      walk_at "my rn"
                      have b3 := b2.add npos hnw
                      rw [show max c2 (nums.getD who 0) = if nums.getD who 0 > c2 then nums.getD who 0 else c2 from by split <;> omega] at b3
                      exact ⟨_, _, _, rfl, si.trans (sj.trans sk), b3.ext fun w _ => (tk w).trans ⟨fun h => h.elim .inl fun h => .inr h.1, fun h => h.elim .inl fun h => .inr ⟨h, mt⟩⟩⟩
                    · have nmt : ¬ MeetN es a k := fun h => cc ((meet_len mLx mL).mpr h)
                      walk_at "my rn"
                      exact ⟨_, _, _, rfl, si.trans (sj.trans sk), b2.ext fun w _ => (tk w).trans ⟨fun h => h.elim id fun h => absurd h.2 nmt, .inl⟩⟩
                · rintro σ Hi ⟨c2, y15, y20, rfl, si, b2⟩
                  have ln : ((natsI R[who]).map V.int).length = R[who].length := by unfold natsI; rw [List.length_map, List.length_map]
                  rw [ln, List.take_length] at b2
                  exact ⟨c2, _, _, _, rfl, si, b2.ext fun w _ => ⟨fun ⟨h1, h2⟩ => by
                    by_cases z : w = who
                    · subst z; rw [gR] at h2; exact .inr ⟨rfl, h2⟩
                    · exact .inl ⟨by omega, h2⟩, fun h => by
                    rcases h with ⟨h1, h2⟩ | ⟨h1, h2⟩
                    · exact ⟨by omega, h2⟩
                    · subst h1; rw [← gR] at h2; exact ⟨by omega, h2⟩⟩⟩
              · rintro σ Hh ⟨c1, y15, y19, y20, rfl, sh, bb⟩
                have hDh := sh _ _ (sg _ _ hDf)
                walk_at "my rn"
                refine Rd.app hDh (Rd.szl (by rw [List.length_map]; omega)) ?_
                refine ⟨ds ++ [c1], _, _, _, _, _, _, rfl, (bf.trans (Rd.But.same (sg.trans sh))).trans Rd.But.at_, by rw [upd_same, List.map_append]; rfl, by simp [ld], fun k' c' h => ?_⟩
                by_cases hk' : k' < ds.length
                · rw [List.getElem?_append_left hk'] at h
                  exact hb k' c' h
                · have h2 := (List.getElem?_eq_some_iff.mp h).1
                  simp at h2
                  have ek : k' = k := by omega
                  subst ek
                  rw [List.getElem?_append_right (by omega), ld, Nat.sub_self] at h
                  simp at h
                  subst h
                  exact bb.ext fun w hw => ⟨fun h => ⟨by omega, h⟩, fun h => h.2⟩
            · rintro σ Hf ⟨ds, y7, y15, y17, y18, y19, y20, rfl, bf, hDf, ld, hb⟩
              have lp : LawP many obs es tks rs irs ats := ⟨m4, lo, le, ook, by omega, by omega, ta.ok, ia.la, by have := ia.le; omega, ia.ob⟩
              have sdf : Same Hd Hf := fun b o e => bf b o (fun z => by rw [z, nDu] at e; cases e) (se _ _ e)
              walk_at "my rn"
              intro Pl Hg nP sg hP
              walk_at "my rn"
              intro tp Hh nt sh ht
              have sdh := sdf.trans (sg.trans sh)
              have dpg : Dp K Hh (.ref tp) (lawPg obs tks irs).d := .tup (SqT.of ht) (.cons (.str _) (.cons (.str _) (.cons (.lst (SqL.of (sh _ _ hP)) .nil) (.cons (dp_same sdh dOd) (.cons (dp_same sdh dTd) (.cons (dp_same sdh dId) .nil))))))
              obtain ⟨t', O', T', I', os', ts', is', et, pa⟩ := pg_at dpg
              cases et
              walk_at "my rn"
              refine ⟨tp, O', T', I', os', ts', is', lawPg obs tks irs, rfl, pa, lp.w, fun C cs rows us Hi si nC hC lcs lrw lus ir iu ic => ?_⟩
              have hDi := (sg.trans (sh.trans si)) _ _ hDf
              have lo' : (lawPg obs tks irs).obs.length = many := lo
              have enu : (lawPg obs tks irs).nums = nums := by rw [enums, ews]; rfl
              have lun : us.length = nums.length := by
                rw [lus, ← lR, eR]
                show (tks.map (fun t => callsN t.body) ++ irs.map (fun t => [t.obj])).length = _
                simp only [List.length_append, List.length_map, lt, lr, ia.la]
              have same : cs = ds := by
                refine List.ext_getElem? fun k => ?_
                by_cases hk : k < many
                · have k1 : k < cs.length := by omega
                  have k2 : k < ds.length := by omega
                  have k3 : k < rows.length := by omega
                  have e1 : cs[k]? = some cs[k] := List.getElem?_eq_getElem k1
                  have e2 : ds[k]? = some ds[k] := List.getElem?_eq_getElem k2
                  have e3 : rows[k]? = some rows[k] := List.getElem?_eq_getElem k3
                  have ce := ic k _ _ e1 e3
                  rw [enu] at ce
                  have b := hb k _ e2
                  have := best_ceil npos lun b ce fun i u hu => by
                    have hui : i < (lawPg obs tks irs).uses.length := by rw [← lus]; exact (List.getElem?_eq_some_iff.mp hu).1
                    have eu : (lawPg obs tks irs).uses[i]? = some (lawPg obs tks irs).uses[i] := List.getElem?_eq_getElem hui
                    rw [eR]
                    exact lp.meet eu (iu i _ u eu hu) (ir k _ e3)
                  rw [e1, e2, this]
                · rw [List.getElem?_eq_none (by omega), List.getElem?_eq_none (by omega)]
              subst same
              walk_at "my rn"
              refine Rd.neD (dp_ints (SqL.of hC)) (dp_ints (SqL.of hDi)) (ints_shaped _) (ints_shaped _) ?_
              rw [eqv_ints, decide_eq_true rfl]
              refine ⟨_, rfl, Rd.ifnT ?_⟩
              walk_at "my rn"
              refine fun D nD => Rd.lc_rel (walk_list (xs := cs.map V.int)) (fun i v _ => v = .bl true) nD (by rw [List.length_map]; omega) (fun _ _ _ _ h _ => h) (fun H b => (b.to nD).seq (SqL.of hC)) (fun i x Hjo Hj Kt hi b hDl y kt => ?_) (fun Hk bs lbs hbs sk hDk => ?_)
              · obtain ⟨rfl, hx⟩ := y
                obtain ⟨n, rfl⟩ : ∃ n, x = .int n := by
                  rw [List.getElem?_map] at hx
                  cases z : cs[i]? with
                  | none => rw [z] at hx; cases hx
                  | some n => rw [z] at hx; exact ⟨n, (Option.some.inj hx).symm⟩
                simp only [List.map_cons, List.map_nil, L2.wipe, List.set_cons_succ, List.set_cons_zero]
                walk_at "my rn"
                refine ⟨rfl, ?_⟩
                walk_at "my rn"
                exact kt _ _ rfl (Same.refl _)
              · have eb : bs = (List.replicate bs.length true).map V.bl := by
                  refine List.ext_getElem? fun i => ?_
                  rw [List.getElem?_map, List.getElem?_replicate]
                  by_cases hi : i < bs.length
                  · have e := List.getElem?_eq_getElem hi
                    rw [if_pos hi, e, hbs i _ e]; rfl
                  · rw [if_neg hi, List.getElem?_eq_none (by omega)]; rfl
                rw [eb] at hDk
                walk_at "my rn"
                refine ⟨D, _, rfl, SqL.of hDk, ?_⟩
                rw [show (List.replicate bs.length true).all id = true from by simp]
                exact q _
end

def top_mk {P : Program} {w : World} {K : PySem.W.Frag} {h : Heap} {mg : Str → Option Value} (X : K.In h) (G : h.Ns mainGlobals mg)
    {a__law_state : Addr} {od__law_state an__law_state : Option Addr} {sl__law_state : Array (Option Value)} {oc__law_state kV__law_state dc__law_state pm__law_state cd__law_state ct__law_state : Value}
    {a__law_draw : Addr} {od__law_draw an__law_draw : Option Addr} {sl__law_draw : Array (Option Value)} {oc__law_draw kV__law_draw dc__law_draw pm__law_draw cd__law_draw ct__law_draw : Value}
    {a_find : Addr} {od_find an_find : Option Addr} {sl_find : Array (Option Value)} {oc_find kV_find dc_find pm_find cd_find ct_find : Value}
    {a__overlap : Addr} {od__overlap an__overlap : Option Addr} {sl__overlap : Array (Option Value)} {oc__overlap kV__overlap dc__overlap pm__overlap cd__overlap ct__overlap : Value}
    {a__inside : Addr} {od__inside an__inside : Option Addr} {sl__inside : Array (Option Value)} {oc__inside kV__inside dc__inside pm__inside cd__inside ct__inside : Value}
    {a__copied : Addr} {od__copied an__copied : Option Addr} {sl__copied : Array (Option Value)} {oc__copied kV__copied dc__copied pm__copied cd__copied ct__copied : Value}
    {a__copied_statement : Addr} {od__copied_statement an__copied_statement : Option Addr} {sl__copied_statement : Array (Option Value)} {oc__copied_statement kV__copied_statement dc__copied_statement pm__copied_statement cd__copied_statement ct__copied_statement : Value}
    {a_statements : Addr} {od_statements an_statements : Option Addr} {sl_statements : Array (Option Value)} {oc_statements kV_statements dc_statements pm_statements cd_statements ct_statements : Value}
    {a__reached_by : Addr} {od__reached_by an__reached_by : Option Addr} {sl__reached_by : Array (Option Value)} {oc__reached_by kV__reached_by dc__reached_by pm__reached_by cd__reached_by ct__reached_by : Value}
    {a_reached : Addr} {od_reached an_reached : Option Addr} {sl_reached : Array (Option Value)} {oc_reached kV_reached dc_reached pm_reached cd_reached ct_reached : Value}
    {a_used : Addr} {od_used an_used : Option Addr} {sl_used : Array (Option Value)} {oc_used kV_used dc_used pm_used cd_used ct_used : Value}
    {a_numbers : Addr} {od_numbers an_numbers : Option Addr} {sl_numbers : Array (Option Value)} {oc_numbers kV_numbers dc_numbers pm_numbers cd_numbers ct_numbers : Value}
    {a_ceilings : Addr} {od_ceilings an_ceilings : Option Addr} {sl_ceilings : Array (Option Value)} {oc_ceilings kV_ceilings dc_ceilings pm_ceilings cd_ceilings ct_ceilings : Value}
    {a__law_wrapped : Addr} {od__law_wrapped an__law_wrapped : Option Addr} {sl__law_wrapped : Array (Option Value)} {oc__law_wrapped kV__law_wrapped dc__law_wrapped pm__law_wrapped cd__law_wrapped ct__law_wrapped : Value}
    {a__law_calls : Addr} {od__law_calls an__law_calls : Option Addr} {sl__law_calls : Array (Option Value)} {oc__law_calls kV__law_calls dc__law_calls pm__law_calls cd__law_calls ct__law_calls : Value}
    {a__law_objects : Addr} {od__law_objects an__law_objects : Option Addr} {sl__law_objects : Array (Option Value)} {oc__law_objects kV__law_objects dc__law_objects pm__law_objects cd__law_objects ct__law_objects : Value}
    {a__law_reach : Addr} {od__law_reach an__law_reach : Option Addr} {sl__law_reach : Array (Option Value)} {oc__law_reach kV__law_reach dc__law_reach pm__law_reach cd__law_reach ct__law_reach : Value}
    {a_law : Addr} {od_law an_law : Option Addr} {sl_law : Array (Option Value)} {oc_law kV_law dc_law pm_law cd_law ct_law : Value}
    {t_FIRST_INTERRUPT : Tok}
    (n__law_state : PySem.W.nsIn K mainGlobals "_law_state" = some (some (.ref a__law_state)))
    (n__law_draw : PySem.W.nsIn K mainGlobals "_law_draw" = some (some (.ref a__law_draw)))
    (n_find : PySem.W.nsIn K mainGlobals "find" = some (some (.ref a_find)))
    (n__overlap : PySem.W.nsIn K mainGlobals "_overlap" = some (some (.ref a__overlap)))
    (n__inside : PySem.W.nsIn K mainGlobals "_inside" = some (some (.ref a__inside)))
    (n__copied : PySem.W.nsIn K mainGlobals "_copied" = some (some (.ref a__copied)))
    (n__copied_statement : PySem.W.nsIn K mainGlobals "_copied_statement" = some (some (.ref a__copied_statement)))
    (n_statements : PySem.W.nsIn K mainGlobals "statements" = some (some (.ref a_statements)))
    (n__reached_by : PySem.W.nsIn K mainGlobals "_reached_by" = some (some (.ref a__reached_by)))
    (n_reached : PySem.W.nsIn K mainGlobals "reached" = some (some (.ref a_reached)))
    (n_used : PySem.W.nsIn K mainGlobals "used" = some (some (.ref a_used)))
    (n_numbers : PySem.W.nsIn K mainGlobals "numbers" = some (some (.ref a_numbers)))
    (n_ceilings : PySem.W.nsIn K mainGlobals "ceilings" = some (some (.ref a_ceilings)))
    (n__law_wrapped : PySem.W.nsIn K mainGlobals "_law_wrapped" = some (some (.ref a__law_wrapped)))
    (n__law_calls : PySem.W.nsIn K mainGlobals "_law_calls" = some (some (.ref a__law_calls)))
    (n__law_objects : PySem.W.nsIn K mainGlobals "_law_objects" = some (some (.ref a__law_objects)))
    (n__law_reach : PySem.W.nsIn K mainGlobals "_law_reach" = some (some (.ref a__law_reach)))
    (n_law : PySem.W.nsIn K mainGlobals "law" = some (some (.ref a_law)))
    (l__law_state : K.lookup a__law_state = some ⟨oc__law_state, od__law_state, .func (PySem.W.fnOf "_law_state" "_law_state" (defArgs s__law_state) (defBody s__law_state) (defScope s__law_state) .none kV__law_state dc__law_state pm__law_state an__law_state cd__law_state ct__law_state), sl__law_state⟩)
    (c__law_state : PySem.W.codeIn K cd__law_state "_law_state" = true)
    (k__law_state : PySem.W.keepIn K (.ref a__law_state) = true)
    (l__law_draw : K.lookup a__law_draw = some ⟨oc__law_draw, od__law_draw, .func (PySem.W.fnOf "_law_draw" "_law_draw" (defArgs s__law_draw) (defBody s__law_draw) (defScope s__law_draw) .none kV__law_draw dc__law_draw pm__law_draw an__law_draw cd__law_draw ct__law_draw), sl__law_draw⟩)
    (c__law_draw : PySem.W.codeIn K cd__law_draw "_law_draw" = true)
    (k__law_draw : PySem.W.keepIn K (.ref a__law_draw) = true)
    (l_find : K.lookup a_find = some ⟨oc_find, od_find, .func (PySem.W.fnOf "find" "find" (defArgs s_find) (defBody s_find) (defScope s_find) .none kV_find dc_find pm_find an_find cd_find ct_find), sl_find⟩)
    (c_find : PySem.W.codeIn K cd_find "find" = true)
    (k_find : PySem.W.keepIn K (.ref a_find) = true)
    (l__overlap : K.lookup a__overlap = some ⟨oc__overlap, od__overlap, .func (PySem.W.fnOf "_overlap" "_overlap" (defArgs s__overlap) (defBody s__overlap) (defScope s__overlap) .none kV__overlap dc__overlap pm__overlap an__overlap cd__overlap ct__overlap), sl__overlap⟩)
    (c__overlap : PySem.W.codeIn K cd__overlap "_overlap" = true)
    (k__overlap : PySem.W.keepIn K (.ref a__overlap) = true)
    (l__inside : K.lookup a__inside = some ⟨oc__inside, od__inside, .func (PySem.W.fnOf "_inside" "_inside" (defArgs s__inside) (defBody s__inside) (defScope s__inside) .none kV__inside dc__inside pm__inside an__inside cd__inside ct__inside), sl__inside⟩)
    (c__inside : PySem.W.codeIn K cd__inside "_inside" = true)
    (k__inside : PySem.W.keepIn K (.ref a__inside) = true)
    (l__copied : K.lookup a__copied = some ⟨oc__copied, od__copied, .func (PySem.W.fnOf "_copied" "_copied" (defArgs s__copied) (defBody s__copied) (defScope s__copied) .none kV__copied dc__copied pm__copied an__copied cd__copied ct__copied), sl__copied⟩)
    (c__copied : PySem.W.codeIn K cd__copied "_copied" = true)
    (k__copied : PySem.W.keepIn K (.ref a__copied) = true)
    (l__copied_statement : K.lookup a__copied_statement = some ⟨oc__copied_statement, od__copied_statement, .func (PySem.W.fnOf "_copied_statement" "_copied_statement" (defArgs s__copied_statement) (defBody s__copied_statement) (defScope s__copied_statement) .none kV__copied_statement dc__copied_statement pm__copied_statement an__copied_statement cd__copied_statement ct__copied_statement), sl__copied_statement⟩)
    (c__copied_statement : PySem.W.codeIn K cd__copied_statement "_copied_statement" = true)
    (k__copied_statement : PySem.W.keepIn K (.ref a__copied_statement) = true)
    (l_statements : K.lookup a_statements = some ⟨oc_statements, od_statements, .func (PySem.W.fnOf "statements" "statements" (defArgs s_statements) (defBody s_statements) (defScope s_statements) .none kV_statements dc_statements pm_statements an_statements cd_statements ct_statements), sl_statements⟩)
    (c_statements : PySem.W.codeIn K cd_statements "statements" = true)
    (k_statements : PySem.W.keepIn K (.ref a_statements) = true)
    (l__reached_by : K.lookup a__reached_by = some ⟨oc__reached_by, od__reached_by, .func (PySem.W.fnOf "_reached_by" "_reached_by" (defArgs s__reached_by) (defBody s__reached_by) (defScope s__reached_by) .none kV__reached_by dc__reached_by pm__reached_by an__reached_by cd__reached_by ct__reached_by), sl__reached_by⟩)
    (c__reached_by : PySem.W.codeIn K cd__reached_by "_reached_by" = true)
    (k__reached_by : PySem.W.keepIn K (.ref a__reached_by) = true)
    (l_reached : K.lookup a_reached = some ⟨oc_reached, od_reached, .func (PySem.W.fnOf "reached" "reached" (defArgs s_reached) (defBody s_reached) (defScope s_reached) .none kV_reached dc_reached pm_reached an_reached cd_reached ct_reached), sl_reached⟩)
    (c_reached : PySem.W.codeIn K cd_reached "reached" = true)
    (k_reached : PySem.W.keepIn K (.ref a_reached) = true)
    (l_used : K.lookup a_used = some ⟨oc_used, od_used, .func (PySem.W.fnOf "used" "used" (defArgs s_used) (defBody s_used) (defScope s_used) .none kV_used dc_used pm_used an_used cd_used ct_used), sl_used⟩)
    (c_used : PySem.W.codeIn K cd_used "used" = true)
    (k_used : PySem.W.keepIn K (.ref a_used) = true)
    (l_numbers : K.lookup a_numbers = some ⟨oc_numbers, od_numbers, .func (PySem.W.fnOf "numbers" "numbers" (defArgs s_numbers) (defBody s_numbers) (defScope s_numbers) .none kV_numbers dc_numbers pm_numbers an_numbers cd_numbers ct_numbers), sl_numbers⟩)
    (c_numbers : PySem.W.codeIn K cd_numbers "numbers" = true)
    (k_numbers : PySem.W.keepIn K (.ref a_numbers) = true)
    (l_ceilings : K.lookup a_ceilings = some ⟨oc_ceilings, od_ceilings, .func (PySem.W.fnOf "ceilings" "ceilings" (defArgs s_ceilings) (defBody s_ceilings) (defScope s_ceilings) .none kV_ceilings dc_ceilings pm_ceilings an_ceilings cd_ceilings ct_ceilings), sl_ceilings⟩)
    (c_ceilings : PySem.W.codeIn K cd_ceilings "ceilings" = true)
    (k_ceilings : PySem.W.keepIn K (.ref a_ceilings) = true)
    (l__law_wrapped : K.lookup a__law_wrapped = some ⟨oc__law_wrapped, od__law_wrapped, .func (PySem.W.fnOf "_law_wrapped" "_law_wrapped" (defArgs s__law_wrapped) (defBody s__law_wrapped) (defScope s__law_wrapped) .none kV__law_wrapped dc__law_wrapped pm__law_wrapped an__law_wrapped cd__law_wrapped ct__law_wrapped), sl__law_wrapped⟩)
    (c__law_wrapped : PySem.W.codeIn K cd__law_wrapped "_law_wrapped" = true)
    (k__law_wrapped : PySem.W.keepIn K (.ref a__law_wrapped) = true)
    (l__law_calls : K.lookup a__law_calls = some ⟨oc__law_calls, od__law_calls, .func (PySem.W.fnOf "_law_calls" "_law_calls" (defArgs s__law_calls) (defBody s__law_calls) (defScope s__law_calls) .none kV__law_calls dc__law_calls pm__law_calls an__law_calls cd__law_calls ct__law_calls), sl__law_calls⟩)
    (c__law_calls : PySem.W.codeIn K cd__law_calls "_law_calls" = true)
    (k__law_calls : PySem.W.keepIn K (.ref a__law_calls) = true)
    (l__law_objects : K.lookup a__law_objects = some ⟨oc__law_objects, od__law_objects, .func (PySem.W.fnOf "_law_objects" "_law_objects" (defArgs s__law_objects) (defBody s__law_objects) (defScope s__law_objects) .none kV__law_objects dc__law_objects pm__law_objects an__law_objects cd__law_objects ct__law_objects), sl__law_objects⟩)
    (c__law_objects : PySem.W.codeIn K cd__law_objects "_law_objects" = true)
    (k__law_objects : PySem.W.keepIn K (.ref a__law_objects) = true)
    (l__law_reach : K.lookup a__law_reach = some ⟨oc__law_reach, od__law_reach, .func (PySem.W.fnOf "_law_reach" "_law_reach" (defArgs s__law_reach) (defBody s__law_reach) (defScope s__law_reach) .none kV__law_reach dc__law_reach pm__law_reach an__law_reach cd__law_reach ct__law_reach), sl__law_reach⟩)
    (c__law_reach : PySem.W.codeIn K cd__law_reach "_law_reach" = true)
    (k__law_reach : PySem.W.keepIn K (.ref a__law_reach) = true)
    (l_law : K.lookup a_law = some ⟨oc_law, od_law, .func (PySem.W.fnOf "law" "law" (defArgs s_law) (defBody s_law) (defScope s_law) .none kV_law dc_law pm_law an_law cd_law ct_law), sl_law⟩)
    (c_law : PySem.W.codeIn K cd_law "law" = true)
    (k_law : PySem.W.keepIn K (.ref a_law) = true)
    (z_abs : PySem.W.nsIn K mainGlobals "abs" = some none)
    (z_int : PySem.W.nsIn K mainGlobals "int" = some none)
    (z_len : PySem.W.nsIn K mainGlobals "len" = some none)
    (z_enumerate : PySem.W.nsIn K mainGlobals "enumerate" = some none)
    (z_any : PySem.W.nsIn K mainGlobals "any" = some none)
    (z_list : PySem.W.nsIn K mainGlobals "list" = some none)
    (z_reversed : PySem.W.nsIn K mainGlobals "reversed" = some none)
    (z_range : PySem.W.nsIn K mainGlobals "range" = some none)
    (z_set : PySem.W.nsIn K mainGlobals "set" = some none)
    (z_sorted : PySem.W.nsIn K mainGlobals "sorted" = some none)
    (z_max : PySem.W.nsIn K mainGlobals "max" = some none)
    (z_zip : PySem.W.nsIn K mainGlobals "zip" = some none)
    (z_str : PySem.W.nsIn K mainGlobals "str" = some none)
    (z_bool : PySem.W.nsIn K mainGlobals "bool" = some none)
    (z_isinstance : PySem.W.nsIn K mainGlobals "isinstance" = some none)
    (z_all : PySem.W.nsIn K mainGlobals "all" = some none)
    (v_FIRST_INTERRUPT : PySem.W.nsIn K mainGlobals "FIRST_INTERRUPT" = some (some (.int 9 t_FIRST_INTERRUPT))) :
    Top K mg :=
  { a__law_state := a__law_state,
    d__law_state := _,
    F__law_state := fun_mk (st := s__law_state) l__law_state c__law_state k__law_state,
    g__law_state := PySem.W.mg_of X G n__law_state,
    b__law_state := (fun_mk (st := s__law_state) l__law_state c__law_state k__law_state).binds (ps := ["script"]) fun _ _ _ _ _ _ us hl => match us, hl with | [_], _ => rfl,
    a__law_draw := a__law_draw,
    d__law_draw := _,
    F__law_draw := fun_mk (st := s__law_draw) l__law_draw c__law_draw k__law_draw,
    g__law_draw := PySem.W.mg_of X G n__law_draw,
    b__law_draw := (fun_mk (st := s__law_draw) l__law_draw c__law_draw k__law_draw).binds (ps := ["state", "many"]) fun _ _ _ _ _ _ us hl => match us, hl with | [_, _], _ => rfl,
    a_find := a_find,
    d_find := _,
    F_find := fun_mk (st := s_find) l_find c_find k_find,
    g_find := PySem.W.mg_of X G n_find,
    b_find := (fun_mk (st := s_find) l_find c_find k_find).binds (ps := ["rows", "name"]) fun _ _ _ _ _ _ us hl => match us, hl with | [_, _], _ => rfl,
    a__overlap := a__overlap,
    d__overlap := _,
    F__overlap := fun_mk (st := s__overlap) l__overlap c__overlap k__overlap,
    g__overlap := PySem.W.mg_of X G n__overlap,
    b__overlap := (fun_mk (st := s__overlap) l__overlap c__overlap k__overlap).binds (ps := ["row", "other"]) fun _ _ _ _ _ _ us hl => match us, hl with | [_, _], _ => rfl,
    a__inside := a__inside,
    d__inside := _,
    F__inside := fun_mk (st := s__inside) l__inside c__inside k__inside,
    g__inside := PySem.W.mg_of X G n__inside,
    b__inside := (fun_mk (st := s__inside) l__inside c__inside k__inside).binds (ps := ["statement"]) fun _ _ _ _ _ _ us hl => match us, hl with | [_], _ => rfl,
    a__copied := a__copied,
    d__copied := _,
    F__copied := fun_mk (st := s__copied) l__copied c__copied k__copied,
    g__copied := PySem.W.mg_of X G n__copied,
    b__copied := (fun_mk (st := s__copied) l__copied c__copied k__copied).binds (ps := ["body"]) fun _ _ _ _ _ _ us hl => match us, hl with | [_], _ => rfl,
    a__copied_statement := a__copied_statement,
    d__copied_statement := _,
    F__copied_statement := fun_mk (st := s__copied_statement) l__copied_statement c__copied_statement k__copied_statement,
    g__copied_statement := PySem.W.mg_of X G n__copied_statement,
    b__copied_statement := (fun_mk (st := s__copied_statement) l__copied_statement c__copied_statement k__copied_statement).binds (ps := ["statement"]) fun _ _ _ _ _ _ us hl => match us, hl with | [_], _ => rfl,
    a_statements := a_statements,
    d_statements := _,
    F_statements := fun_mk (st := s_statements) l_statements c_statements k_statements,
    g_statements := PySem.W.mg_of X G n_statements,
    b_statements := (fun_mk (st := s_statements) l_statements c_statements k_statements).binds (ps := ["body"]) fun _ _ _ _ _ _ us hl => match us, hl with | [_], _ => rfl,
    a__reached_by := a__reached_by,
    d__reached_by := _,
    F__reached_by := fun_mk (st := s__reached_by) l__reached_by c__reached_by k__reached_by,
    g__reached_by := PySem.W.mg_of X G n__reached_by,
    b__reached_by := (fun_mk (st := s__reached_by) l__reached_by c__reached_by k__reached_by).binds (ps := ["program", "body", "found"]) fun _ _ _ _ _ _ us hl => match us, hl with | [_, _, _], _ => rfl,
    a_reached := a_reached,
    d_reached := _,
    F_reached := fun_mk (st := s_reached) l_reached c_reached k_reached,
    g_reached := PySem.W.mg_of X G n_reached,
    b_reached := (fun_mk (st := s_reached) l_reached c_reached k_reached).binds (ps := ["program"]) fun _ _ _ _ _ _ us hl => match us, hl with | [_], _ => rfl,
    a_used := a_used,
    d_used := _,
    F_used := fun_mk (st := s_used) l_used c_used k_used,
    g_used := PySem.W.mg_of X G n_used,
    b_used := (fun_mk (st := s_used) l_used c_used k_used).binds (ps := ["program"]) fun _ _ _ _ _ _ us hl => match us, hl with | [_], _ => rfl,
    a_numbers := a_numbers,
    d_numbers := _,
    F_numbers := fun_mk (st := s_numbers) l_numbers c_numbers k_numbers,
    g_numbers := PySem.W.mg_of X G n_numbers,
    b_numbers := (fun_mk (st := s_numbers) l_numbers c_numbers k_numbers).binds (ps := ["program"]) fun _ _ _ _ _ _ us hl => match us, hl with | [_], _ => rfl,
    a_ceilings := a_ceilings,
    d_ceilings := _,
    F_ceilings := fun_mk (st := s_ceilings) l_ceilings c_ceilings k_ceilings,
    g_ceilings := PySem.W.mg_of X G n_ceilings,
    b_ceilings := (fun_mk (st := s_ceilings) l_ceilings c_ceilings k_ceilings).binds (ps := ["program"]) fun _ _ _ _ _ _ us hl => match us, hl with | [_], _ => rfl,
    a__law_wrapped := a__law_wrapped,
    d__law_wrapped := _,
    F__law_wrapped := fun_mk (st := s__law_wrapped) l__law_wrapped c__law_wrapped k__law_wrapped,
    g__law_wrapped := PySem.W.mg_of X G n__law_wrapped,
    b__law_wrapped := (fun_mk (st := s__law_wrapped) l__law_wrapped c__law_wrapped k__law_wrapped).binds (ps := ["state", "call"]) fun _ _ _ _ _ _ us hl => match us, hl with | [_, _], _ => rfl,
    a__law_calls := a__law_calls,
    d__law_calls := _,
    F__law_calls := fun_mk (st := s__law_calls) l__law_calls c__law_calls k__law_calls,
    g__law_calls := PySem.W.mg_of X G n__law_calls,
    b__law_calls := (fun_mk (st := s__law_calls) l__law_calls c__law_calls k__law_calls).binds (ps := ["state", "first", "many"]) fun _ _ _ _ _ _ us hl => match us, hl with | [_, _, _], _ => rfl,
    a__law_objects := a__law_objects,
    d__law_objects := _,
    F__law_objects := fun_mk (st := s__law_objects) l__law_objects c__law_objects k__law_objects,
    g__law_objects := PySem.W.mg_of X G n__law_objects,
    b__law_objects := (fun_mk (st := s__law_objects) l__law_objects c__law_objects k__law_objects).binds (ps := ["state", "many"]) fun _ _ _ _ _ _ us hl => match us, hl with | [_, _], _ => rfl,
    a__law_reach := a__law_reach,
    d__law_reach := _,
    F__law_reach := fun_mk (st := s__law_reach) l__law_reach c__law_reach k__law_reach,
    g__law_reach := PySem.W.mg_of X G n__law_reach,
    b__law_reach := (fun_mk (st := s__law_reach) l__law_reach c__law_reach k__law_reach).binds (ps := ["edges", "k"]) fun _ _ _ _ _ _ us hl => match us, hl with | [_, _], _ => rfl,
    a_law := a_law,
    d_law := _,
    F_law := fun_mk (st := s_law) l_law c_law k_law,
    g_law := PySem.W.mg_of X G n_law,
    b_law := (fun_mk (st := s_law) l_law c_law k_law).binds (ps := ["script"]) fun _ _ _ _ _ _ us hl => match us, hl with | [_], _ => rfl,
    m_abs := PySem.W.mg_none_of X G z_abs,
    m_int := PySem.W.mg_none_of X G z_int,
    m_len := PySem.W.mg_none_of X G z_len,
    m_enumerate := PySem.W.mg_none_of X G z_enumerate,
    m_any := PySem.W.mg_none_of X G z_any,
    m_list := PySem.W.mg_none_of X G z_list,
    m_reversed := PySem.W.mg_none_of X G z_reversed,
    m_range := PySem.W.mg_none_of X G z_range,
    m_set := PySem.W.mg_none_of X G z_set,
    m_sorted := PySem.W.mg_none_of X G z_sorted,
    m_max := PySem.W.mg_none_of X G z_max,
    m_zip := PySem.W.mg_none_of X G z_zip,
    m_str := PySem.W.mg_none_of X G z_str,
    m_bool := PySem.W.mg_none_of X G z_bool,
    m_isinstance := PySem.W.mg_none_of X G z_isinstance,
    m_all := PySem.W.mg_none_of X G z_all,
    t_FIRST_INTERRUPT := t_FIRST_INTERRUPT,
    c_FIRST_INTERRUPT := PySem.W.mg_of X G v_FIRST_INTERRUPT }
theorem all_mk {l : PySem.W.OpenLaw} {w : World} {K : PySem.W.Frag} {mg : Str → Option Value} {fa : Addr} (T : Top K mg) (hfa : mg "law" = some (.ref fa)) :
    ∃ fd : FuncData, (∀ (s : Shared) (v : Value), BindsTo s fd ⟨[v], []⟩ [("script", v)]) ∧ ∀ base : Heap, K.In base → base.Ns mainGlobals mg → FnOk l.prog w K mg base CX0 26 fa fd ["script"] (sp_law K) := by
  have e := hfa.symm.trans T.g_law
  cases e
  refine ⟨T.d_law, fun s v => ?_, fun base _ _ => ok_law T⟩
  obtain ⟨oc, od, kV, doc, pm, an, cdv, ct, osl, e, lk, hcd⟩ := T.F_law.ex
  rw [e]
  exact .of_eq rfl
end Mine
open PySem PySem.W PyProof.Rows
set_option maxHeartbeats 0 in
theorem PySem.Challenge.cw_deadbeat_k43_ceilings_of_objects_holds : PySem.Challenge.rw_deadbeat_k43_ceilings_of_objects.Holds := by
  w_on; o_law; k_head; (case hw => w_witness2)
  k_fill
  refine L2.walk_of (l := PySem.Challenge.rw_deadbeat_k43_ceilings_of_objects) (n := 63) (k := 26) (x := "script") (CX := fun _ => L2.CX0) (sp := fun w => Mine.sp_law _) rfl (by decide) rfl ⟨rfl, by decide, by decide⟩ (fun w h Y => PySem.W.kIn_of Y) ?F (fun _ _ a ns hl _ hS => ⟨a, ns, rfl, hS, hl, fun _ => rfl⟩) (fun _ _ _ _ _ h => h)
  case F =>
    intro w mg fa h KX G hmg
    refine' Mine.all_mk (Mine.top_mk (P := PySem.Challenge.rw_deadbeat_k43_ceilings_of_objects.prog) (w := w) KX G ?n__law_state ?n__law_draw ?n_find ?n__overlap ?n__inside ?n__copied ?n__copied_statement ?n_statements ?n__reached_by ?n_reached ?n_used ?n_numbers ?n_ceilings ?n__law_wrapped ?n__law_calls ?n__law_objects ?n__law_reach ?n_law ?l__law_state ?c__law_state ?k__law_state ?l__law_draw ?c__law_draw ?k__law_draw ?l_find ?c_find ?k_find ?l__overlap ?c__overlap ?k__overlap ?l__inside ?c__inside ?k__inside ?l__copied ?c__copied ?k__copied ?l__copied_statement ?c__copied_statement ?k__copied_statement ?l_statements ?c_statements ?k_statements ?l__reached_by ?c__reached_by ?k__reached_by ?l_reached ?c_reached ?k_reached ?l_used ?c_used ?k_used ?l_numbers ?c_numbers ?k_numbers ?l_ceilings ?c_ceilings ?k_ceilings ?l__law_wrapped ?c__law_wrapped ?k__law_wrapped ?l__law_calls ?c__law_calls ?k__law_calls ?l__law_objects ?c__law_objects ?k__law_objects ?l__law_reach ?c__law_reach ?k__law_reach ?l_law ?c_law ?k_law ?z_abs ?z_int ?z_len ?z_enumerate ?z_any ?z_list ?z_reversed ?z_range ?z_set ?z_sorted ?z_max ?z_zip ?z_str ?z_bool ?z_isinstance ?z_all ?v_FIRST_INTERRUPT) hmg
    (case n__law_state => k_is); (case n__law_draw => k_is); (case n_find => k_is); (case n__overlap => k_is); (case n__inside => k_is); (case n__copied => k_is); (case n__copied_statement => k_is); (case n_statements => k_is); (case n__reached_by => k_is); (case n_reached => k_is); (case n_used => k_is); (case n_numbers => k_is); (case n_ceilings => k_is); (case n__law_wrapped => k_is); (case n__law_calls => k_is); (case n__law_objects => k_is); (case n__law_reach => k_is); (case n_law => k_is); (case l__law_state => k_is); (case c__law_state => k_is); (case k__law_state => k_is); (case l__law_draw => k_is); (case c__law_draw => k_is); (case k__law_draw => k_is); (case l_find => k_is); (case c_find => k_is); (case k_find => k_is); (case l__overlap => k_is); (case c__overlap => k_is); (case k__overlap => k_is); (case l__inside => k_is); (case c__inside => k_is); (case k__inside => k_is); (case l__copied => k_is); (case c__copied => k_is); (case k__copied => k_is); (case l__copied_statement => k_is); (case c__copied_statement => k_is); (case k__copied_statement => k_is); (case l_statements => k_is); (case c_statements => k_is); (case k_statements => k_is); (case l__reached_by => k_is); (case c__reached_by => k_is); (case k__reached_by => k_is); (case l_reached => k_is); (case c_reached => k_is); (case k_reached => k_is); (case l_used => k_is); (case c_used => k_is); (case k_used => k_is); (case l_numbers => k_is); (case c_numbers => k_is); (case k_numbers => k_is); (case l_ceilings => k_is); (case c_ceilings => k_is); (case k_ceilings => k_is); (case l__law_wrapped => k_is); (case c__law_wrapped => k_is); (case k__law_wrapped => k_is); (case l__law_calls => k_is); (case c__law_calls => k_is); (case k__law_calls => k_is); (case l__law_objects => k_is); (case c__law_objects => k_is); (case k__law_objects => k_is); (case l__law_reach => k_is); (case c__law_reach => k_is); (case k__law_reach => k_is); (case l_law => k_is); (case c_law => k_is); (case k_law => k_is); (case z_abs => k_is); (case z_int => k_is); (case z_len => k_is); (case z_enumerate => k_is); (case z_any => k_is); (case z_list => k_is); (case z_reversed => k_is); (case z_range => k_is); (case z_set => k_is); (case z_sorted => k_is); (case z_max => k_is); (case z_zip => k_is); (case z_str => k_is); (case z_bool => k_is); (case z_isinstance => k_is); (case z_all => k_is); (case v_FIRST_INTERRUPT => k_is)
