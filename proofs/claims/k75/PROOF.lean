import PyProof.Rows.All
import Wide.All
import OpenK.AllK
import Wide.FinOn
import PyProof.RulesMatch
import HandS.Base
import HandS.Call
import HandS.Words
import HandS.IsInst
import HandS.ForExc
import HandS.Zip
import HandS.Walk
import HandS.Strs
import HandS.ForMost
import HandS.Evl
import HandS.SortInts
import HandS.List
import HandS.SetFor
import HandS.RevRange
import HandS.RaiseMore
import PyProof.InstEq
import HandS.TupSets
import PyProof.EqKinds
import PyProof.NeKinds
import KE.KDictZip
import KE.KDictItemsList
import HandS.ListItems
import HandS.Style
import HandS.TupLe
import HandS.TryOnly
import HandS.Ends
import PyProof.ReprRoads
import HandS.DictComp
import HandS.More
import KE.DatumOrd
import HandS.SortKw
import HandS.SetKeys
import KE.KExcSuper
import KE.KSuperObj
import KE.KSuper
import HandS.ExcInit
import HandS.ExcSuper
import HandS.ExcField
import HandS.ExcIs
import KE.KExcIs
import KE.KIsAll
import PyProof.RulesMatchSeq
import PyProof.Rows.MatchSeqLen
import PyProof.Rows.TupIter
import HandS.Defaults
import HandS.MakeKwOnly
import HandS.Dict
import PySem.Challenge.RW_deadbeat_k75_limits_of_programs
import HandS.Wide
import HandS.WideBits
import HandS.StrMore
import HandS.IntHex
import HandS.ReSub
import HandS.Codes
import HandS.SortRule
import HandS.Deep
import HandS.DeepEq
set_option Elab.async false
set_option linter.all false
set_option maxRecDepth 100000
namespace L2
open PySem PySem.Spec PyProof.Rows
/-- the cases of a match over texts: a written text or whatever is left, and what is done -/
def tCases (z : Str) : List (Option Str × TS) → TS
  | [] => fun D σ H => D.nx σ H
  | (none, t) :: _ => t
  | (some c, t) :: r => fun D σ H => if z = c then t D σ H else tCases z r D σ H
def tMatch (te : TE) (l : List (Option Str × TS)) : TS := fun D σ H => te σ H fun x H1 => ∃ z : Str, x = .str z ∧ tCases z l D σ H1
inductive PCs (X : Cx) : List MatchCase → List (Option Str × TS) → Prop
  | nil : PCs X [] []
  | rest {body : List Stmt} {t : TS} {p : Pos} {r : List MatchCase} : PSs X body t → PCs X (⟨.MatchAs none none p, none, body⟩ :: r) [(none, t)]
  | text {body : List Stmt} {t : TS} {c : Str} {j : Nat} {p p2 : Pos} {r : List MatchCase} {l : List (Option Str × TS)} : PSs X body t → PCs X r l →
      PCs X (⟨.MatchValue (.Constant (.str c) j p) p2, none, body⟩ :: r) ((some c, t) :: l)
theorem run_cases {X : Cx} {z : Str} {u : Value} (ru : RelV (.str z) u) : ∀ {cs : List MatchCase} {l : List (Option Str × TS)}, PCs X cs l → ∀ (first : Bool) (pins : List (Addr × Obj)) (s : Shared) (σ : St) (H : Hp) (D : Ends), Inv X pins σ H s → tCases z l D σ H →
    wpAny (model X.prog X.w) X.A (matchCases cs X.env u first) (SP X pins D) X.xe s
  | _, _, .nil, first, pins, s, σ, H, D, I, h => wpAny_matchCases_nil ⟨σ, H, I, h⟩
  | _, _, .rest hb, first, pins, s, σ, H, D, I, h => by
    refine wpAny_matchCases_cons (wpAny_matchPattern_Capture ?_)
    exact wpAny_assignInOrder_none (hb.run pins s σ H D I h)
  | _, _, .text (c := c) (l := l) hb hr, first, pins, s, σ, H, D, I, h => by
    refine wpAny_matchCases_cons (wpAny_matchPattern_Value ?_)
    refine thn ((pe_str (X := X) (x := c)).run pins s σ H (fun v H' => v = .str c ∧ H' = H) I ⟨rfl, rfl⟩) fun v s1 hh => ?_
    obtain ⟨x, H1, I1, rx, ex, eH⟩ := hh
    subst ex
    subst eH
    refine thn (op_eq pins s1 σ H1 (.str z) (.str c) u v (fun y H' => y = .bl (decide (V.str z = V.str c)) ∧ H' = H1) I1 ru rx ⟨rfl, rfl, rfl⟩) fun y s2 hh => ?_
    obtain ⟨x, H2, I2, rx2, ex, eH⟩ := hh
    subst ex
    subst eH
    cases rx2
    refine wpAny_truthy_bool ?_
    have h' : (if z = c then _ else _) := h
    by_cases e : z = c
    · rw [if_pos e] at h'
      rw [decide_eq_true (by rw [e])]
      exact wpAny_assignInOrder_none (hb.run pins s2 σ H2 D I2 h')
    · rw [if_neg e] at h'
      rw [decide_eq_false (fun q => e (by injection q))]
      exact run_cases ru hr false pins s2 σ H2 D I2 h'
theorem ps_match {X : Cx} {e : Expr} {te : TE} {cs : List MatchCase} {l : List (Option Str × TS)} {pos : Pos} (he : PE X e te) (hc : PCs X cs l) : PS X (.Match e cs pos) (tMatch te l) := by
  refine ⟨fun pins s σ H D I h => wpAny_Match ?_⟩
  refine thn (he.run pins s σ H _ I h) fun u s1 hh => ?_
  obtain ⟨x, H1, I1, rx, z, ez, hz⟩ := hh
  subst ez
  exact run_cases rx hc true pins s1 σ H1 D I1 hz
/-- a module's constant: an int, a text, an object -/
theorem pe_gi {X : Cx} {x : Str} {n : Int} {t : Tok} {pos : Pos} (hg : Gl X x) (hm : X.mg x = some (.int n t)) (hd : (x == ("__debug__" : Str)) = false := by decide) : PE X (.Name x pos) (tC (.int n)) := pe_glob hg hm ⟨_, rfl⟩ hd
theorem pe_gs {X : Cx} {x : Str} {z : Str} {t : Tok} {pos : Pos} (hg : Gl X x) (hm : X.mg x = some (.str z t)) (hd : (x == ("__debug__" : Str)) = false := by decide) : PE X (.Name x pos) (tC (.str z)) := pe_glob hg hm ⟨_, rfl⟩ hd
theorem pe_gr {X : Cx} {x : Str} {a : Addr} {pos : Pos} (hg : Gl X x) (hm : X.mg x = some (.ref a)) (hd : (x == ("__debug__" : Str)) = false := by decide) : PE X (.Name x pos) (tC (.ref a)) := pe_glob (v := .ref a) hg hm rfl hd
/-- a built-in type as a value -/
theorem pe_ty {X : Cx} {x : Str} {T : String} {pos : Pos} (hg : Gl X x) (hm : X.mg x = none) (hv : bootBuiltins x = some (.type T)) (hn : x ≠ "__name__" := by decide) (hd : (x == ("__debug__" : Str)) = false := by decide) : PE X (.Name x pos) (tC (.ty T)) :=
  ⟨fun _ s _ H _ I h => ld_blt I hg hm hv ⟨.ty T, H, I, rfl, h⟩ hn hd⟩
/-- isinstance of a plain value and a built-in type -/
theorem isi_int {K : PySem.W.Frag} {H : Hp} {Q : VK} {i : Int} (q : Q (.bl true) H) : rIsi K [.int i, .ty "int"] H Q := ⟨_, _, _, _, true, rfl, .ty _, .base (.int _), kit_ty (by decide +kernel), q⟩
theorem isi_int_bool {K : PySem.W.Frag} {H : Hp} {Q : VK} {i : Int} (q : Q (.bl false) H) : rIsi K [.int i, .ty "bool"] H Q := ⟨_, _, _, _, false, rfl, .ty _, .base (.int _), kit_ty (by decide +kernel), q⟩
theorem Same.none {H H' : Hp} (e : Same H H') {p : Addr} (h : H' p = Option.none) : H p = Option.none := Same.free e h
theorem same_new {H : Hp} {p : Addr} {o : HO} (h : H p = Option.none) : Same H (upd H p o) := fun b x e => by
  rw [upd_ne (ne_of_none e h)]
  exact e
theorem or_test {t u : TT} {σ : St} {H : Hp} {a b : Bool} {Q : Bool → Hp → Prop} (h1 : ∀ Q' : Bool → Hp → Prop, Q' a H → t σ H Q') (h2 : a = false → ∀ Q' : Bool → Hp → Prop, Q' b H → u σ H Q') (q : Q (a || b) H) : tOr t u σ H Q := by
  refine h1 _ ?_
  cases a with
  | true => exact iteT q
  | false => exact iteF (h2 rfl _ q)
theorem and_test {t u : TT} {σ : St} {H : Hp} {a b : Bool} {Q : Bool → Hp → Prop} (h1 : ∀ Q' : Bool → Hp → Prop, Q' a H → t σ H Q') (h2 : a = true → ∀ Q' : Bool → Hp → Prop, Q' b H → u σ H Q') (q : Q (a && b) H) : tAnd t u σ H Q := by
  refine h1 _ ?_
  cases a with
  | true => exact iteT (h2 rfl _ q)
  | false => exact iteF q
theorem if_or {t u : TT} {a b : Bool} {A B : TS} {D : Ends} {σ : St} {H : Hp} (h1 : ∀ Q' : Bool → Hp → Prop, Q' a H → t σ H Q') (h2 : a = false → ∀ Q' : Bool → Hp → Prop, Q' b H → u σ H Q') (q : if (a || b) = true then A D σ H else B D σ H) : tIfS (tOr t u) A B D σ H := or_test h1 h2 q
theorem if_and {t u : TT} {a b : Bool} {A B : TS} {D : Ends} {σ : St} {H : Hp} (h1 : ∀ Q' : Bool → Hp → Prop, Q' a H → t σ H Q') (h2 : a = true → ∀ Q' : Bool → Hp → Prop, Q' b H → u σ H Q') (q : if (a && b) = true then A D σ H else B D σ H) : tIfS (tAnd t u) A B D σ H := and_test h1 h2 q
theorem Same.off {H H1 : Hp} {D : Addr} {x : HO} (k : Same H H1) (n : H D = Option.none) : Same H (upd H1 D x) := fun b y e => by
  rw [upd_ne (ne_of_none e n)]
  exact k b y e
theorem Same.seqT {K : PySem.W.Frag} {H H' : Hp} {a : Addr} {xs : List V} (e : Same H H') (h : SqT K H a xs) : SqT K H' a xs := by
  rcases h with h | h
  · rcases h with h | ⟨o, h⟩
    · exact .inl (.inl (e _ _ h))
    · exact .inl (.inr ⟨o, e _ _ h⟩)
  · exact .inr h
/-- a def that may raise, called where it does not -/
theorem pass_no {X : Cx} : Passes (L2.CX X.prog X.w) X (fun _ _ _ => False) := fun _ _ _ _ _ _ _ c => by
  obtain ⟨_, _, _, _, _, _, _, _, _, _, _, _, z⟩ := c
  exact z.elim
def rListOf (K : PySem.W.Frag) : List V → Hp → VK → Prop := fun xs H Q => ∃ p ys, xs = [V.ref p] ∧ (SqL K H p ys ∨ SqT K H p ys) ∧ ∀ l, H l = Option.none → Q (.ref l) (upd H l (.lst ys))
theorem if_t {b : Bool} {A B : Prop} (h : b = true) (q : A) : if b = true then A else B := by
  rw [if_pos h]
  exact q
theorem if_f {b : Bool} {A B : Prop} (h : b = false) (q : B) : if b = true then A else B := by
  rw [if_neg (by rw [h]; exact Bool.noConfusion)]
  exact q
/-- a tuple of the written part, as it stands there -/
theorem sqT_lit {K : PySem.W.Frag} {p : Addr} {dd : Option Addr} {us : Array Value} {n : Nat} {sl : Array (Option Value)} {xs : List V} {H : Hp} (w : K.lookup p = some ⟨.type "tuple", dd, .seq us n, sl⟩) (y : Vals xs us.toList) (hl : xs.length ≤ sizeLine := by decide) : SqT K H p xs :=
  .inr ⟨_, us, n, w, rfl, rfl, Nat.le_trans (Nat.le_of_eq (by rw [← Array.length_toList]; exact (Paired.length y).symm)) hl, y⟩
end L2

set_option Elab.async false
set_option linter.all false
set_option maxRecDepth 100000
namespace Rd
open PySem PySem.Spec PyProof.Rows L2
variable {K : PySem.W.Frag} {σ : L2.St} {H : Hp} {D : Ends} {Q : VK} {ta tb te tc : TE} {t u c : TT} {ts tu : TS} {g : TG} {x y v : V} {vs : List V} {tr : TA} {a b : Option V} {r : L2.St}
theorem seq (h : ts { D with nx := tu D } σ H) : tSeq ts tu D σ H := h
theorem next (h : D.nx σ H) : tNext D σ H := h
theorem brk (h : D.bk σ H) : tBreak D σ H := h
theorem cont (h : D.ct σ H) : tCont D σ H := h
theorem asg (h : te σ H fun x H1 => g x σ H1 D.nx) : tAsg te g D σ H := h
theorem ret (h : te σ H D.rt) : tRet te D σ H := h
theorem retN (h : D.rt .non H) : tRetN D σ H := h
theorem drop (h : te σ H fun _ H1 => D.nx σ H1) : tDrop te D σ H := h
theorem ifs (h : c σ H fun b H1 => if b = true then ts D σ H1 else tu D σ H1) : tIfS c ts tu D σ H := h
theorem ife (h : t σ H fun b H1 => if b = true then ta σ H1 Q else tb σ H1 Q) : tIf t ta tb σ H Q := h
theorem test {Q : Bool → Hp → Prop} (h : te σ H fun x H1 => ∃ k, x = .bl k ∧ Q k H1) : tTest te σ H Q := h
theorem tb_ {Q : Bool → Hp → Prop} (h : te σ H fun x H1 => ∃ k, x = .bl k ∧ Q k H1) : tB te σ H Q := h
theorem bl {b : Bool} {Q : Bool → Hp → Prop} (h : Q b H) : ∃ k, V.bl b = .bl k ∧ Q k H := ⟨b, rfl, h⟩
theorem bl2 {b : Bool} {P : Bool → Prop} (h : P b) : ∃ k, V.bl b = .bl k ∧ P k := ⟨b, rfl, h⟩
theorem and_ {Q : Bool → Hp → Prop} (h : t σ H fun c H1 => if c = true then u σ H1 Q else Q false H1) : tAnd t u σ H Q := h
theorem or_ {Q : Bool → Hp → Prop} (h : t σ H fun c H1 => if c = true then Q true H1 else u σ H1 Q) : tOr t u σ H Q := h
theorem not_ {Q : Bool → Hp → Prop} (h : t σ H fun c H1 => Q (!c) H1) : tNot t σ H Q := h
theorem andV (h : ta σ H fun x H1 => ∃ c, x = .bl c ∧ if c = true then tb σ H1 Q else Q (.bl false) H1) : tAndV ta tb σ H Q := h
theorem orV (h : ta σ H fun x H1 => ∃ c, x = .bl c ∧ if c = true then Q (.bl true) H1 else tb σ H1 Q) : tOrV ta tb σ H Q := h
theorem notV (h : ta σ H fun x H1 => ∃ c, x = .bl c ∧ Q (.bl (!c)) H1) : tNotV ta σ H Q := h
theorem op {r : R2} (h : ta σ H fun x H1 => tb σ H1 fun y H2 => r x y H2 Q) : tOp r ta tb σ H Q := h
theorem un {r : V → Hp → VK → Prop} (h : ta σ H fun x H1 => r x H1 Q) : tUn r ta σ H Q := h
theorem I0 {f : Int → Int → V} {i j : Int} (h : Q (f i j) H) : rI0 f (.int i) (.int j) H Q := ⟨i, j, rfl, rfl, h⟩
theorem I {C : Int → Int → Prop} {f : Int → Int → V} {i j : Int} (c : C i j) (h : Q (f i j) H) : rI C f (.int i) (.int j) H Q := ⟨i, j, rfl, rfl, c, h⟩
theorem U {f : Int → V} {i : Int} (h : Q (f i) H) : rU f (.int i) H Q := ⟨i, rfl, h⟩
theorem ip {f : Int → Int → Int} {i j : Int} (h : Q (.int (f i j)) H) : ipI f (.int i) (.int j) H Q := ⟨i, j, rfl, rfl, h⟩
theorem eq (s : scal x y = true) (h : Q (.bl (decide (x = y))) H) : rEq x y H Q := ⟨s, h⟩
theorem ne (s : scal x y = true) (h : Q (.bl (!decide (x = y))) H) : rNe x y H Q := ⟨s, h⟩
theorem c_ (h : Q v H) : tC v σ H Q := h
theorem nil {Q : List V → Hp → Prop} (h : Q [] H) : tNil σ H Q := h
theorem cons {Q : List V → Hp → Prop} (h : ta σ H fun x H1 => tr σ H1 fun xs H2 => Q (x :: xs) H2) : tCons ta tr σ H Q := h
theorem tup (h : tr σ H fun xs H1 => xs.length ≤ sizeLine ∧ ∀ p, H1 p = none → Q (.ref p) (upd H1 p (.tup xs))) : tTup tr σ H Q := h
theorem lst (h : tr σ H fun xs H1 => xs.length ≤ sizeLine ∧ ∀ p, H1 p = none → Q (.ref p) (upd H1 p (.lst xs))) : tLst tr σ H Q := h
theorem newT {xs : List V} (s : xs.length ≤ sizeLine) (h : ∀ p, H p = none → Q (.ref p) (upd H p (.tup xs))) : xs.length ≤ sizeLine ∧ ∀ p, H p = none → Q (.ref p) (upd H p (.tup xs)) := ⟨s, h⟩
theorem newL {xs : List V} (s : xs.length ≤ sizeLine) (h : ∀ p, H p = none → Q (.ref p) (upd H p (.lst xs))) : xs.length ≤ sizeLine ∧ ∀ p, H p = none → Q (.ref p) (upd H p (.lst xs)) := ⟨s, h⟩
theorem szA {xs : List V} {A : Prop} (s : xs.length ≤ sizeLine) (h : A) : xs.length ≤ sizeLine ∧ A := ⟨s, h⟩
theorem call {sp : Sp} {dvs : List V} {E : XK} (h : tr σ H fun vs H1 => sp (vs ++ dvs) H1 Q E) : tCall sp dvs E tr σ H Q := h
theorem cb {f : List V → Hp → VK → Prop} (h : tr σ H fun vs H1 => f vs H1 Q) : tCB f tr σ H Q := h
theorem bm {T : String} {f : V → List V → Hp → VK → Prop} (h : te σ H fun x H1 => tyV K T x H1 ∧ tr σ H1 fun xs H2 => f x xs H2 Q) : tBM K T f te tr σ H Q := h
theorem bm0 {T : String} {f : V → List V → Hp → VK → Prop} (h : te σ H fun x H1 => tyV K T x H1 ∧ f x [] H1 Q) : tBM0 K T f te σ H Q := h
theorem tyL {p : Addr} {xs : List V} {A : Prop} (s : H p = some (.lst xs)) (h : A) : tyV K "list" (.ref p) H ∧ A := ⟨.inl ⟨rfl, _, SqL.of s⟩, h⟩
theorem tyLq {p : Addr} {xs : List V} {A : Prop} (s : SqL K H p xs) (h : A) : tyV K "list" (.ref p) H ∧ A := ⟨.inl ⟨rfl, _, s⟩, h⟩
theorem tyS {z : Str} {A : Prop} (h : A) : tyV K "str" (.str z) H ∧ A := ⟨rfl, h⟩
theorem app {l : Addr} {xs : List V} (h : H l = some (.lst xs)) (s : xs.length < sizeLine) (q : Q .non (upd H l (.lst (xs ++ [y])))) : rAppend (.ref l) [y] H Q := ⟨l, xs, y, rfl, rfl, h, s, q⟩
theorem sl {f : V → Option Int → Option Int → Hp → VK → Prop} {tl th : TO} (h : te σ H fun x H1 => tl σ H1 fun l H2 => th σ H2 fun u H3 => f x l u H3 Q) : L2.tSl f te tl th σ H Q := h
theorem nopart {Q : Option Int → Hp → Prop} (h : Q none H) : tNoPart σ H Q := h
theorem part {Q : Option Int → Hp → Prop} (h : te σ H fun x H1 => ∃ i, x = .int i ∧ Q (some i) H1) : tPart te σ H Q := h
theorem int1 {i : Int} {P : Int → Prop} (h : P i) : ∃ j, V.int i = .int j ∧ P j := ⟨i, rfl, h⟩
theorem ints1 {i : Int} {P : Int → Prop} (h : P i) : ∃ j, [V.int i] = [.int j] ∧ P j := ⟨i, rfl, h⟩
theorem ints2 {i j : Int} {P : Int → Int → Prop} (h : P i j) : ∃ a b, [V.int i, V.int j] = [.int a, .int b] ∧ P a b := ⟨i, j, rfl, h⟩
theorem ixLq {p : Addr} {xs : List V} {i : Int} (h : SqL K H p xs) (e : atI xs i = some v) (q : Q v H) : rIxL K (.ref p) (.int i) H Q := ⟨p, xs, i, v, rfl, rfl, h, e, q⟩
theorem ixL {p : Addr} {xs : List V} {i : Int} (h : H p = some (.lst xs)) (e : atI xs i = some v) (q : Q v H) : rIxL K (.ref p) (.int i) H Q := ⟨p, xs, i, v, rfl, rfl, SqL.of h, e, q⟩
theorem ixT {p : Addr} {xs : List V} {i : Int} (h : H p = some (.tup xs)) (e : atI xs i = some v) (q : Q v H) : rIxT K (.ref p) (.int i) H Q := ⟨p, xs, i, v, rfl, rfl, SqT.of h, e, q⟩
theorem ixTq {p : Addr} {xs : List V} {i : Int} (h : SqT K H p xs) (e : atI xs i = some v) (q : Q v H) : rIxT K (.ref p) (.int i) H Q := ⟨p, xs, i, v, rfl, rfl, h, e, q⟩
theorem gtup {p : Addr} {xs : List V} {n : Nat} {f : TGs} {Q : L2.St → Hp → Prop} (h : H p = some (.tup xs)) (l : xs.length = n) (q : f xs σ H Q) : gTup K n f (.ref p) σ H Q := ⟨p, xs, rfl, SqT.of h, l, q⟩
theorem gtupq {p : Addr} {xs : List V} {n : Nat} {f : TGs} {Q : L2.St → Hp → Prop} (h : SqT K H p xs) (l : xs.length = n) (q : f xs σ H Q) : gTup K n f (.ref p) σ H Q := ⟨p, xs, rfl, h, l, q⟩
theorem yes {Q : Bool → Hp → Prop} (h : Q true H) : tYes σ H Q := h
theorem gcons {f : TGs} {Q : L2.St → Hp → Prop} (q : g v σ H fun σ' H' => f vs σ' H' Q) : gCons g f (v :: vs) σ H Q := ⟨v, vs, rfl, q⟩
theorem gnil {Q : L2.St → Hp → Prop} (q : Q σ H) : gNil [] σ H Q := ⟨rfl, q⟩
theorem sub {to ti : TE} {f : TSet} {Q : L2.St → Hp → Prop} (h : to σ H fun o H1 => ti σ H1 fun i H2 => f o i v H2 fun H3 => Q σ H3) : gSub to ti f v σ H Q := h
theorem setL {l : Addr} {xs : List V} {j : Nat} {i : Int} {Q : Hp → Prop} (h : H l = some (.lst xs)) (e : ixN xs.length i = some j) (q : Q (upd H l (.lst (xs.set j v)))) : rSetL (.ref l) (.int i) v H Q := ⟨l, xs, i, j, rfl, rfl, h, e, q⟩
theorem isN (h : ta σ H fun x H1 => Q (.bl (decide (x = .non))) H1) : tIsN ta σ H Q := h
theorem rf {α : Type} {a : α} {A : Prop} (h : A) : a = a ∧ A := ⟨rfl, h⟩
theorem sz {n : Nat} (h : n ≤ 100000) : n ≤ sizeLine := Nat.le_trans h (by decide)
theorem szl {n : Nat} (h : n < 100000) : n < sizeLine := Nat.lt_of_lt_of_le h (by decide)
theorem chain {r r' : R2} (h : ta σ H fun x H1 => tb σ H1 fun y H2 => r x y H2 fun z H3 => ∃ k, z = .bl k ∧ if k = true then tc σ H3 fun w H4 => r' y w H4 Q else Q (.bl false) H3) : tChain r r' ta tb tc σ H Q := h

theorem v0 (h : Q v H) : tVar 0 (some v :: r) H Q := ⟨v, rfl, h⟩
theorem n0 {Q : L2.St → Hp → Prop} (h : Q (some v :: r) H) : gName 0 v (a :: r) H Q := h
theorem g0 {ti : TIp} (h : te (some x :: r) H fun y H1 => ti x y H1 fun z H2 => D.nx (some z :: r) H2) : tAug 0 te ti D (some x :: r) H := ⟨x, rfl, h⟩
theorem v1 {a0 : Option V} (h : Q v H) : tVar 1 (a0 :: some v :: r) H Q := ⟨v, rfl, h⟩
theorem n1 {a0 : Option V} {Q : L2.St → Hp → Prop} (h : Q (a0 :: some v :: r) H) : gName 1 v (a0 :: a :: r) H Q := h
theorem g1 {a0 : Option V} {ti : TIp} (h : te (a0 :: some x :: r) H fun y H1 => ti x y H1 fun z H2 => D.nx (a0 :: some z :: r) H2) : tAug 1 te ti D (a0 :: some x :: r) H := ⟨x, rfl, h⟩
theorem v2 {a0 a1 : Option V} (h : Q v H) : tVar 2 (a0 :: a1 :: some v :: r) H Q := ⟨v, rfl, h⟩
theorem n2 {a0 a1 : Option V} {Q : L2.St → Hp → Prop} (h : Q (a0 :: a1 :: some v :: r) H) : gName 2 v (a0 :: a1 :: a :: r) H Q := h
theorem g2 {a0 a1 : Option V} {ti : TIp} (h : te (a0 :: a1 :: some x :: r) H fun y H1 => ti x y H1 fun z H2 => D.nx (a0 :: a1 :: some z :: r) H2) : tAug 2 te ti D (a0 :: a1 :: some x :: r) H := ⟨x, rfl, h⟩
theorem v3 {a0 a1 a2 : Option V} (h : Q v H) : tVar 3 (a0 :: a1 :: a2 :: some v :: r) H Q := ⟨v, rfl, h⟩
theorem n3 {a0 a1 a2 : Option V} {Q : L2.St → Hp → Prop} (h : Q (a0 :: a1 :: a2 :: some v :: r) H) : gName 3 v (a0 :: a1 :: a2 :: a :: r) H Q := h
theorem g3 {a0 a1 a2 : Option V} {ti : TIp} (h : te (a0 :: a1 :: a2 :: some x :: r) H fun y H1 => ti x y H1 fun z H2 => D.nx (a0 :: a1 :: a2 :: some z :: r) H2) : tAug 3 te ti D (a0 :: a1 :: a2 :: some x :: r) H := ⟨x, rfl, h⟩
theorem v4 {a0 a1 a2 a3 : Option V} (h : Q v H) : tVar 4 (a0 :: a1 :: a2 :: a3 :: some v :: r) H Q := ⟨v, rfl, h⟩
theorem n4 {a0 a1 a2 a3 : Option V} {Q : L2.St → Hp → Prop} (h : Q (a0 :: a1 :: a2 :: a3 :: some v :: r) H) : gName 4 v (a0 :: a1 :: a2 :: a3 :: a :: r) H Q := h
theorem g4 {a0 a1 a2 a3 : Option V} {ti : TIp} (h : te (a0 :: a1 :: a2 :: a3 :: some x :: r) H fun y H1 => ti x y H1 fun z H2 => D.nx (a0 :: a1 :: a2 :: a3 :: some z :: r) H2) : tAug 4 te ti D (a0 :: a1 :: a2 :: a3 :: some x :: r) H := ⟨x, rfl, h⟩
theorem v5 {a0 a1 a2 a3 a4 : Option V} (h : Q v H) : tVar 5 (a0 :: a1 :: a2 :: a3 :: a4 :: some v :: r) H Q := ⟨v, rfl, h⟩
theorem n5 {a0 a1 a2 a3 a4 : Option V} {Q : L2.St → Hp → Prop} (h : Q (a0 :: a1 :: a2 :: a3 :: a4 :: some v :: r) H) : gName 5 v (a0 :: a1 :: a2 :: a3 :: a4 :: a :: r) H Q := h
theorem g5 {a0 a1 a2 a3 a4 : Option V} {ti : TIp} (h : te (a0 :: a1 :: a2 :: a3 :: a4 :: some x :: r) H fun y H1 => ti x y H1 fun z H2 => D.nx (a0 :: a1 :: a2 :: a3 :: a4 :: some z :: r) H2) : tAug 5 te ti D (a0 :: a1 :: a2 :: a3 :: a4 :: some x :: r) H := ⟨x, rfl, h⟩
theorem v6 {a0 a1 a2 a3 a4 a5 : Option V} (h : Q v H) : tVar 6 (a0 :: a1 :: a2 :: a3 :: a4 :: a5 :: some v :: r) H Q := ⟨v, rfl, h⟩
theorem n6 {a0 a1 a2 a3 a4 a5 : Option V} {Q : L2.St → Hp → Prop} (h : Q (a0 :: a1 :: a2 :: a3 :: a4 :: a5 :: some v :: r) H) : gName 6 v (a0 :: a1 :: a2 :: a3 :: a4 :: a5 :: a :: r) H Q := h
theorem g6 {a0 a1 a2 a3 a4 a5 : Option V} {ti : TIp} (h : te (a0 :: a1 :: a2 :: a3 :: a4 :: a5 :: some x :: r) H fun y H1 => ti x y H1 fun z H2 => D.nx (a0 :: a1 :: a2 :: a3 :: a4 :: a5 :: some z :: r) H2) : tAug 6 te ti D (a0 :: a1 :: a2 :: a3 :: a4 :: a5 :: some x :: r) H := ⟨x, rfl, h⟩
theorem v7 {a0 a1 a2 a3 a4 a5 a6 : Option V} (h : Q v H) : tVar 7 (a0 :: a1 :: a2 :: a3 :: a4 :: a5 :: a6 :: some v :: r) H Q := ⟨v, rfl, h⟩
theorem n7 {a0 a1 a2 a3 a4 a5 a6 : Option V} {Q : L2.St → Hp → Prop} (h : Q (a0 :: a1 :: a2 :: a3 :: a4 :: a5 :: a6 :: some v :: r) H) : gName 7 v (a0 :: a1 :: a2 :: a3 :: a4 :: a5 :: a6 :: a :: r) H Q := h
theorem g7 {a0 a1 a2 a3 a4 a5 a6 : Option V} {ti : TIp} (h : te (a0 :: a1 :: a2 :: a3 :: a4 :: a5 :: a6 :: some x :: r) H fun y H1 => ti x y H1 fun z H2 => D.nx (a0 :: a1 :: a2 :: a3 :: a4 :: a5 :: a6 :: some z :: r) H2) : tAug 7 te ti D (a0 :: a1 :: a2 :: a3 :: a4 :: a5 :: a6 :: some x :: r) H := ⟨x, rfl, h⟩
theorem v8 {a0 a1 a2 a3 a4 a5 a6 a7 : Option V} (h : Q v H) : tVar 8 (a0 :: a1 :: a2 :: a3 :: a4 :: a5 :: a6 :: a7 :: some v :: r) H Q := ⟨v, rfl, h⟩
theorem n8 {a0 a1 a2 a3 a4 a5 a6 a7 : Option V} {Q : L2.St → Hp → Prop} (h : Q (a0 :: a1 :: a2 :: a3 :: a4 :: a5 :: a6 :: a7 :: some v :: r) H) : gName 8 v (a0 :: a1 :: a2 :: a3 :: a4 :: a5 :: a6 :: a7 :: a :: r) H Q := h
theorem g8 {a0 a1 a2 a3 a4 a5 a6 a7 : Option V} {ti : TIp} (h : te (a0 :: a1 :: a2 :: a3 :: a4 :: a5 :: a6 :: a7 :: some x :: r) H fun y H1 => ti x y H1 fun z H2 => D.nx (a0 :: a1 :: a2 :: a3 :: a4 :: a5 :: a6 :: a7 :: some z :: r) H2) : tAug 8 te ti D (a0 :: a1 :: a2 :: a3 :: a4 :: a5 :: a6 :: a7 :: some x :: r) H := ⟨x, rfl, h⟩
theorem v9 {a0 a1 a2 a3 a4 a5 a6 a7 a8 : Option V} (h : Q v H) : tVar 9 (a0 :: a1 :: a2 :: a3 :: a4 :: a5 :: a6 :: a7 :: a8 :: some v :: r) H Q := ⟨v, rfl, h⟩
theorem n9 {a0 a1 a2 a3 a4 a5 a6 a7 a8 : Option V} {Q : L2.St → Hp → Prop} (h : Q (a0 :: a1 :: a2 :: a3 :: a4 :: a5 :: a6 :: a7 :: a8 :: some v :: r) H) : gName 9 v (a0 :: a1 :: a2 :: a3 :: a4 :: a5 :: a6 :: a7 :: a8 :: a :: r) H Q := h
theorem g9 {a0 a1 a2 a3 a4 a5 a6 a7 a8 : Option V} {ti : TIp} (h : te (a0 :: a1 :: a2 :: a3 :: a4 :: a5 :: a6 :: a7 :: a8 :: some x :: r) H fun y H1 => ti x y H1 fun z H2 => D.nx (a0 :: a1 :: a2 :: a3 :: a4 :: a5 :: a6 :: a7 :: a8 :: some z :: r) H2) : tAug 9 te ti D (a0 :: a1 :: a2 :: a3 :: a4 :: a5 :: a6 :: a7 :: a8 :: some x :: r) H := ⟨x, rfl, h⟩
theorem v10 {a0 a1 a2 a3 a4 a5 a6 a7 a8 a9 : Option V} (h : Q v H) : tVar 10 (a0 :: a1 :: a2 :: a3 :: a4 :: a5 :: a6 :: a7 :: a8 :: a9 :: some v :: r) H Q := ⟨v, rfl, h⟩
theorem n10 {a0 a1 a2 a3 a4 a5 a6 a7 a8 a9 : Option V} {Q : L2.St → Hp → Prop} (h : Q (a0 :: a1 :: a2 :: a3 :: a4 :: a5 :: a6 :: a7 :: a8 :: a9 :: some v :: r) H) : gName 10 v (a0 :: a1 :: a2 :: a3 :: a4 :: a5 :: a6 :: a7 :: a8 :: a9 :: a :: r) H Q := h
theorem g10 {a0 a1 a2 a3 a4 a5 a6 a7 a8 a9 : Option V} {ti : TIp} (h : te (a0 :: a1 :: a2 :: a3 :: a4 :: a5 :: a6 :: a7 :: a8 :: a9 :: some x :: r) H fun y H1 => ti x y H1 fun z H2 => D.nx (a0 :: a1 :: a2 :: a3 :: a4 :: a5 :: a6 :: a7 :: a8 :: a9 :: some z :: r) H2) : tAug 10 te ti D (a0 :: a1 :: a2 :: a3 :: a4 :: a5 :: a6 :: a7 :: a8 :: a9 :: some x :: r) H := ⟨x, rfl, h⟩
theorem v11 {a0 a1 a2 a3 a4 a5 a6 a7 a8 a9 a10 : Option V} (h : Q v H) : tVar 11 (a0 :: a1 :: a2 :: a3 :: a4 :: a5 :: a6 :: a7 :: a8 :: a9 :: a10 :: some v :: r) H Q := ⟨v, rfl, h⟩
theorem n11 {a0 a1 a2 a3 a4 a5 a6 a7 a8 a9 a10 : Option V} {Q : L2.St → Hp → Prop} (h : Q (a0 :: a1 :: a2 :: a3 :: a4 :: a5 :: a6 :: a7 :: a8 :: a9 :: a10 :: some v :: r) H) : gName 11 v (a0 :: a1 :: a2 :: a3 :: a4 :: a5 :: a6 :: a7 :: a8 :: a9 :: a10 :: a :: r) H Q := h
theorem g11 {a0 a1 a2 a3 a4 a5 a6 a7 a8 a9 a10 : Option V} {ti : TIp} (h : te (a0 :: a1 :: a2 :: a3 :: a4 :: a5 :: a6 :: a7 :: a8 :: a9 :: a10 :: some x :: r) H fun y H1 => ti x y H1 fun z H2 => D.nx (a0 :: a1 :: a2 :: a3 :: a4 :: a5 :: a6 :: a7 :: a8 :: a9 :: a10 :: some z :: r) H2) : tAug 11 te ti D (a0 :: a1 :: a2 :: a3 :: a4 :: a5 :: a6 :: a7 :: a8 :: a9 :: a10 :: some x :: r) H := ⟨x, rfl, h⟩
theorem v12 {a0 a1 a2 a3 a4 a5 a6 a7 a8 a9 a10 a11 : Option V} (h : Q v H) : tVar 12 (a0 :: a1 :: a2 :: a3 :: a4 :: a5 :: a6 :: a7 :: a8 :: a9 :: a10 :: a11 :: some v :: r) H Q := ⟨v, rfl, h⟩
theorem n12 {a0 a1 a2 a3 a4 a5 a6 a7 a8 a9 a10 a11 : Option V} {Q : L2.St → Hp → Prop} (h : Q (a0 :: a1 :: a2 :: a3 :: a4 :: a5 :: a6 :: a7 :: a8 :: a9 :: a10 :: a11 :: some v :: r) H) : gName 12 v (a0 :: a1 :: a2 :: a3 :: a4 :: a5 :: a6 :: a7 :: a8 :: a9 :: a10 :: a11 :: a :: r) H Q := h
theorem g12 {a0 a1 a2 a3 a4 a5 a6 a7 a8 a9 a10 a11 : Option V} {ti : TIp} (h : te (a0 :: a1 :: a2 :: a3 :: a4 :: a5 :: a6 :: a7 :: a8 :: a9 :: a10 :: a11 :: some x :: r) H fun y H1 => ti x y H1 fun z H2 => D.nx (a0 :: a1 :: a2 :: a3 :: a4 :: a5 :: a6 :: a7 :: a8 :: a9 :: a10 :: a11 :: some z :: r) H2) : tAug 12 te ti D (a0 :: a1 :: a2 :: a3 :: a4 :: a5 :: a6 :: a7 :: a8 :: a9 :: a10 :: a11 :: some x :: r) H := ⟨x, rfl, h⟩
theorem v13 {a0 a1 a2 a3 a4 a5 a6 a7 a8 a9 a10 a11 a12 : Option V} (h : Q v H) : tVar 13 (a0 :: a1 :: a2 :: a3 :: a4 :: a5 :: a6 :: a7 :: a8 :: a9 :: a10 :: a11 :: a12 :: some v :: r) H Q := ⟨v, rfl, h⟩
theorem n13 {a0 a1 a2 a3 a4 a5 a6 a7 a8 a9 a10 a11 a12 : Option V} {Q : L2.St → Hp → Prop} (h : Q (a0 :: a1 :: a2 :: a3 :: a4 :: a5 :: a6 :: a7 :: a8 :: a9 :: a10 :: a11 :: a12 :: some v :: r) H) : gName 13 v (a0 :: a1 :: a2 :: a3 :: a4 :: a5 :: a6 :: a7 :: a8 :: a9 :: a10 :: a11 :: a12 :: a :: r) H Q := h
theorem g13 {a0 a1 a2 a3 a4 a5 a6 a7 a8 a9 a10 a11 a12 : Option V} {ti : TIp} (h : te (a0 :: a1 :: a2 :: a3 :: a4 :: a5 :: a6 :: a7 :: a8 :: a9 :: a10 :: a11 :: a12 :: some x :: r) H fun y H1 => ti x y H1 fun z H2 => D.nx (a0 :: a1 :: a2 :: a3 :: a4 :: a5 :: a6 :: a7 :: a8 :: a9 :: a10 :: a11 :: a12 :: some z :: r) H2) : tAug 13 te ti D (a0 :: a1 :: a2 :: a3 :: a4 :: a5 :: a6 :: a7 :: a8 :: a9 :: a10 :: a11 :: a12 :: some x :: r) H := ⟨x, rfl, h⟩
theorem v14 {a0 a1 a2 a3 a4 a5 a6 a7 a8 a9 a10 a11 a12 a13 : Option V} (h : Q v H) : tVar 14 (a0 :: a1 :: a2 :: a3 :: a4 :: a5 :: a6 :: a7 :: a8 :: a9 :: a10 :: a11 :: a12 :: a13 :: some v :: r) H Q := ⟨v, rfl, h⟩
theorem n14 {a0 a1 a2 a3 a4 a5 a6 a7 a8 a9 a10 a11 a12 a13 : Option V} {Q : L2.St → Hp → Prop} (h : Q (a0 :: a1 :: a2 :: a3 :: a4 :: a5 :: a6 :: a7 :: a8 :: a9 :: a10 :: a11 :: a12 :: a13 :: some v :: r) H) : gName 14 v (a0 :: a1 :: a2 :: a3 :: a4 :: a5 :: a6 :: a7 :: a8 :: a9 :: a10 :: a11 :: a12 :: a13 :: a :: r) H Q := h
theorem g14 {a0 a1 a2 a3 a4 a5 a6 a7 a8 a9 a10 a11 a12 a13 : Option V} {ti : TIp} (h : te (a0 :: a1 :: a2 :: a3 :: a4 :: a5 :: a6 :: a7 :: a8 :: a9 :: a10 :: a11 :: a12 :: a13 :: some x :: r) H fun y H1 => ti x y H1 fun z H2 => D.nx (a0 :: a1 :: a2 :: a3 :: a4 :: a5 :: a6 :: a7 :: a8 :: a9 :: a10 :: a11 :: a12 :: a13 :: some z :: r) H2) : tAug 14 te ti D (a0 :: a1 :: a2 :: a3 :: a4 :: a5 :: a6 :: a7 :: a8 :: a9 :: a10 :: a11 :: a12 :: a13 :: some x :: r) H := ⟨x, rfl, h⟩
theorem v15 {a0 a1 a2 a3 a4 a5 a6 a7 a8 a9 a10 a11 a12 a13 a14 : Option V} (h : Q v H) : tVar 15 (a0 :: a1 :: a2 :: a3 :: a4 :: a5 :: a6 :: a7 :: a8 :: a9 :: a10 :: a11 :: a12 :: a13 :: a14 :: some v :: r) H Q := ⟨v, rfl, h⟩
theorem n15 {a0 a1 a2 a3 a4 a5 a6 a7 a8 a9 a10 a11 a12 a13 a14 : Option V} {Q : L2.St → Hp → Prop} (h : Q (a0 :: a1 :: a2 :: a3 :: a4 :: a5 :: a6 :: a7 :: a8 :: a9 :: a10 :: a11 :: a12 :: a13 :: a14 :: some v :: r) H) : gName 15 v (a0 :: a1 :: a2 :: a3 :: a4 :: a5 :: a6 :: a7 :: a8 :: a9 :: a10 :: a11 :: a12 :: a13 :: a14 :: a :: r) H Q := h
theorem g15 {a0 a1 a2 a3 a4 a5 a6 a7 a8 a9 a10 a11 a12 a13 a14 : Option V} {ti : TIp} (h : te (a0 :: a1 :: a2 :: a3 :: a4 :: a5 :: a6 :: a7 :: a8 :: a9 :: a10 :: a11 :: a12 :: a13 :: a14 :: some x :: r) H fun y H1 => ti x y H1 fun z H2 => D.nx (a0 :: a1 :: a2 :: a3 :: a4 :: a5 :: a6 :: a7 :: a8 :: a9 :: a10 :: a11 :: a12 :: a13 :: a14 :: some z :: r) H2) : tAug 15 te ti D (a0 :: a1 :: a2 :: a3 :: a4 :: a5 :: a6 :: a7 :: a8 :: a9 :: a10 :: a11 :: a12 :: a13 :: a14 :: some x :: r) H := ⟨x, rfl, h⟩
theorem room65 {k : Nat} {A : Around} (r : Room k A) : A.units + 65 < cLine := by
  have := r.un
  omega
/-! ### iterators -/
def lcRest (g : TG) (tt : TT) (te : TE) (vs : List Nat) (σ : L2.St) (Q : VK) (J : It) (H1 : Hp) : Prop := ∀ D, H1 D = none → ∃ W : Nat → Nat → Hp → Prop, (∃ m, W 0 m (upd H1 D (.lst []))) ∧ ∀ i m H, W i m H →
  (J.stop i H ∧ Q (.ref D) H) ∨ (J.go i H ∧ ∃ Nx : Hp → Prop, (∀ H', Nx H' → ∃ m', m' < m ∧ W (i + 1) m' H') ∧ ∀ x H', J.yld i H x H' → g x (wipe σ vs) H' fun σ2 H2 => wipe σ2 vs = wipe σ vs ∧ tt σ2 H2 fun b H3 =>
    if b = true then te σ2 H3 fun y H4 => ∃ acc, H4 D = some (.lst acc) ∧ acc.length < sizeLine ∧ Nx (upd H4 D (.lst (acc ++ [y]))) else Nx H3)
theorem lc {wi : TI} {tt : TT} {ws : List Nat} (h : wi σ H (lcRest g tt te ws σ Q)) : tLc wi g tt te ws σ H Q := h
def forRest (g : TG) (tb : TS) (D : Ends) (σ0 : L2.St) (J : It) (H1 : Hp) : Prop := ∃ W : Nat → Nat → L2.St → Hp → Prop, (∃ m, W 0 m σ0 H1) ∧ ∀ i m σ H, W i m σ H →
  (J.stop i H ∧ D.nx σ H) ∨ (J.go i H ∧ ∃ N : L2.St → Hp → Prop, (∀ σ' H', N σ' H' → ∃ m', m' < m ∧ W (i + 1) m' σ' H') ∧ ∀ x H', J.yld i H x H' → g x σ H' fun σ2 H2 => tb { D with nx := N, ct := N, bk := D.nx } σ2 H2)
theorem for_ {wi : TI} {tb : TS} (h : wi σ H (forRest g tb D σ)) : tFor wi g tb D σ H := h
variable {R : It → Hp → Prop}
theorem ilist (h : te σ H fun x H1 => ∃ a, x = .ref a ∧ (∃ xs, SqL K H1 a xs) ∧ R (Itl K a) H1) : iList K te σ H R := h
theorem itup (h : te σ H fun x H1 => ∃ a, x = .ref a ∧ (∃ xs, SqT K H1 a xs) ∧ R (Itt K a) H1) : iTup K te σ H R := h
theorem irng1 (h : tr σ H fun vs H1 => ∃ j : Int, vs = [.int j] ∧ -(2 ^ 62) ≤ j ∧ j < 2 ^ 62 ∧ R (Itr 0 j.toNat) H1) : iRng1 tr σ H R := h
theorem irng2 (h : tr σ H fun vs H1 => ∃ i j : Int, vs = [.int i, .int j] ∧ (-(2 ^ 62) ≤ i ∧ i < 2 ^ 62 ∧ -(2 ^ 62) ≤ j ∧ j < 2 ^ 62) ∧ R (Itr i (j - i).toNat) H1) : iRng2 tr σ H R := h
theorem ienum (h : tr σ H fun vs H1 => ∃ a xs, vs = [.ref a] ∧ SqL K H1 a xs ∧ R (Ite K a) H1) : iEnum K tr σ H R := h
theorem istr (h : te σ H fun v H1 => ∃ x, v = .str x ∧ R (Its x) H1) : iStr te σ H R := h
theorem refA {a : Addr} {P : Addr → Prop} (h : P a) : ∃ b, V.ref a = .ref b ∧ P b := ⟨a, rfl, h⟩
theorem strA {a : Str} {P : Str → Prop} (h : P a) : ∃ b, V.str a = .str b ∧ P b := ⟨a, rfl, h⟩
theorem sqA {l : Addr} {xs : List V} {A : Prop} (h : H l = some (.lst xs)) (q : A) : (∃ xs, SqL K H l xs) ∧ A := ⟨⟨_, SqL.of h⟩, q⟩
theorem sqAq {l : Addr} {xs : List V} {A : Prop} (h : SqL K H l xs) (q : A) : (∃ xs, SqL K H l xs) ∧ A := ⟨⟨_, h⟩, q⟩
theorem stA {l : Addr} {xs : List V} {A : Prop} (h : H l = some (.tup xs)) (q : A) : (∃ xs, SqT K H l xs) ∧ A := ⟨⟨_, SqT.of h⟩, q⟩
theorem stAq {l : Addr} {xs : List V} {A : Prop} (h : SqT K H l xs) (q : A) : (∃ xs, SqT K H l xs) ∧ A := ⟨⟨_, h⟩, q⟩
theorem enA {l : Addr} {xs : List V} {P : Addr → Prop} (h : H l = some (.lst xs)) (q : P l) : ∃ a ys, [V.ref l] = [.ref a] ∧ SqL K H a ys ∧ P a := ⟨l, xs, rfl, SqL.of h, q⟩
theorem enAq {l : Addr} {xs : List V} {P : Addr → Prop} (h : SqL K H l xs) (q : P l) : ∃ a ys, [V.ref l] = [.ref a] ∧ SqL K H a ys ∧ P a := ⟨l, xs, rfl, h, q⟩
theorem lenL {l : Addr} {xs : List V} {P : List V → Prop} (h : H l = some (.lst xs)) (q : P xs) : ∃ p ys, [V.ref l] = [.ref p] ∧ (SqL K H p ys ∨ SqT K H p ys) ∧ P ys := ⟨l, xs, rfl, .inl (SqL.of h), q⟩
theorem lenLq {l : Addr} {xs : List V} {P : List V → Prop} (h : SqL K H l xs) (q : P xs) : ∃ p ys, [V.ref l] = [.ref p] ∧ (SqL K H p ys ∨ SqT K H p ys) ∧ P ys := ⟨l, xs, rfl, .inl h, q⟩
theorem lenTq {l : Addr} {xs : List V} {P : List V → Prop} (h : SqT K H l xs) (q : P xs) : ∃ p ys, [V.ref l] = [.ref p] ∧ (SqL K H p ys ∨ SqT K H p ys) ∧ P ys := ⟨l, xs, rfl, .inr h, q⟩
theorem lenT {l : Addr} {xs : List V} {P : List V → Prop} (h : H l = some (.tup xs)) (q : P xs) : ∃ p ys, [V.ref l] = [.ref p] ∧ (SqL K H p ys ∨ SqT K H p ys) ∧ P ys := ⟨l, xs, rfl, .inr (SqT.of h), q⟩
/-! ### comprehensions: each element by a relation -/
def But (D : Addr) (H H' : Hp) : Prop := ∀ b o, b ≠ D → H b = some o → H' b = some o
theorem But.refl {D : Addr} : But D H H := fun _ _ _ h => h
theorem But.trans {D : Addr} {H H1 H2 : Hp} (a : But D H H1) (b : But D H1 H2) : But D H H2 := fun x o n h => b x o n (a x o n h)
theorem But.same {D : Addr} {H H1 : Hp} (a : Same H H1) : But D H H1 := fun x o _ h => a x o h
theorem But.at_ {D : Addr} {o : HO} : But D H (upd H D o) := fun x u n h => by rw [upd_ne n]; exact h
theorem But.to {D : Addr} {H H1 : Hp} (a : But D H H1) (n : H D = none) : Same H H1 := fun x o h => a x o (fun z => by rw [z, n] at h; cases h) h
theorem lc_rel {J : It} {n : Nat} {G : Hp → Prop} {Y : Nat → Hp → V → Hp → Prop} (w : Walk J n G Y) {g : TG} {te : TE} {vs : List Nat} {σ : L2.St} {H1 : Hp} {D : Addr} {Qd : Hp → Prop} (R : Nat → V → Hp → Prop)
    (nD : H1 D = none) (hn : n ≤ 100000) (mono : ∀ i v H H', R i v H → But D H H' → R i v H') (hG : ∀ H, But D H1 H → G H)
    (hs : ∀ i x H H' (Kt : VK), i < n → But D H1 H → (∃ xs, H D = some (.lst xs)) → Y i H x H' → (∀ y H4, R i y H4 → Same H H4 → Kt y H4) → g x (wipe σ vs) H' fun σ2 H2 => wipe σ2 vs = wipe σ vs ∧ te σ2 H2 Kt)
    (hd : ∀ H ys, ys.length = n → (∀ i v, ys[i]? = some v → R i v H) → Same H1 H → H D = some (.lst ys) → Qd H) :
    ∃ W : Nat → Nat → Hp → Prop, (∃ m, W 0 m (upd H1 D (.lst []))) ∧ ∀ i m H, W i m H →
      (J.stop i H ∧ Qd H) ∨ (J.go i H ∧ ∃ Nx : Hp → Prop, (∀ H', Nx H' → ∃ m', m' < m ∧ W (i + 1) m' H') ∧ ∀ x H', J.yld i H x H' → g x (wipe σ vs) H' fun σ2 H2 => wipe σ2 vs = wipe σ vs ∧ tYes σ2 H2 fun b H3 =>
        if b = true then te σ2 H3 fun y H4 => ∃ acc, H4 D = some (.lst acc) ∧ acc.length < sizeLine ∧ Nx (upd H4 D (.lst (acc ++ [y]))) else Nx H3) := by
  refine lc_it w (fun i H => ∃ ys, ys.length = i ∧ (∀ i v, ys[i]? = some v → R i v H) ∧ But D H1 H ∧ H D = some (.lst ys)) ⟨[], rfl, fun i v h => by simp at h, But.at_, upd_same⟩ (fun i H _ h => ?_) (fun i x H H' hi h y => ?_) (fun H h => ?_)
  · obtain ⟨_, _, _, b, _⟩ := h
    exact hG H b
  · obtain ⟨ys, hl, hr, b, hD⟩ := h
    refine hs i x H H' _ hi b ⟨_, hD⟩ y fun v H4 r sm => ?_
    refine ⟨ys, sm _ _ hD, szl (by omega), ys ++ [v], by simp [hl], fun j u hj => ?_, (b.trans (But.same sm)).trans But.at_, upd_same⟩
    by_cases hj2 : j < ys.length
    · rw [List.getElem?_append_left hj2] at hj
      exact mono _ _ _ _ (hr j u hj) ((But.same sm).trans But.at_)
    · have e : j = ys.length := by
        have := (List.getElem?_eq_some_iff.mp hj).1
        simp at this; omega
      subst e
      rw [List.getElem?_append_right (Nat.le_refl _)] at hj
      simp at hj
      subst hj
      rw [hl]
      exact mono _ _ _ _ r But.at_
  · obtain ⟨ys, hl, hr, b, hD⟩ := h
    exact hd H ys hl hr (b.to nD) hD
/-! ### tests, ints in lists -/
theorem ifD {p : Prop} [Decidable p] {A B : Prop} (h1 : p → A) (h2 : ¬ p → B) : if decide p = true then A else B := by
  by_cases h : p
  · rw [decide_eq_true h, if_pos rfl]; exact h1 h
  · rw [decide_eq_false h, if_neg Bool.false_ne_true]; exact h2 h
theorem ifN {p : Prop} [Decidable p] {A B : Prop} (h1 : ¬ p → A) (h2 : p → B) : if (!decide p) = true then A else B := by
  by_cases h : p
  · rw [decide_eq_true h, if_neg (by decide)]; exact h2 h
  · rw [decide_eq_false h, if_pos (by decide)]; exact h1 h
theorem ifT {A B : Prop} (h : A) : if true = true then A else B := by rw [if_pos rfl]; exact h
theorem ifF {A B : Prop} (h : B) : if false = true then A else B := by rw [if_neg Bool.false_ne_true]; exact h
theorem ifB {b : Bool} {A B : Prop} (h1 : b = true → A) (h2 : b = false → B) : if b = true then A else B := by
  cases b with
  | true => exact ifT (h1 rfl)
  | false => exact ifF (h2 rfl)
theorem ifNB {b : Bool} {A B : Prop} (h1 : b = false → A) (h2 : b = true → B) : if (!b) = true then A else B := by
  cases b with
  | true => exact ifF (h2 rfl)
  | false => exact ifT (h1 rfl)
theorem flat_ints (ns : List Int) : (ns.map V.int).all flatV = true := by
  rw [List.all_eq_true]
  intro x hx
  obtain ⟨i, _, rfl⟩ := List.mem_map.mp hx
  rfl
theorem flat_strs (ns : List Str) : (ns.map V.str).all flatV = true := by
  rw [List.all_eq_true]
  intro x hx
  obtain ⟨i, _, rfl⟩ := List.mem_map.mp hx
  rfl
theorem eqV_ints (a b : Int) : eqV (.int a) (.int b) = decide (a = b) := by
  by_cases h : a = b <;> simp [eqV, h]
theorem inV_ints (x : Int) (r : List Int) : inV (.int x) (r.map V.int) = decide (x ∈ r) := by
  unfold inV
  rw [List.any_map]
  by_cases h : x ∈ r
  · rw [decide_eq_true h, List.any_eq_true]
    exact ⟨x, h, beq_self_eq_true x⟩
  · rw [decide_eq_false h, List.any_eq_false]
    intro y hy e
    have e2 : (y == x) = true := e
    exact h (by rw [← eq_of_beq e2]; exact hy)
theorem first_at (ns : List Int) (n : Int) (h : n ∈ ns) : ∃ j : Nat, ns[j]? = some n ∧ ∀ i, i < j → ns[i]? ≠ some n := by
  induction ns with
  | nil => simp at h
  | cons a r ih =>
    by_cases e : a = n
    · exact ⟨0, by simp [e], fun i hi => absurd hi (Nat.not_lt_zero _)⟩
    · obtain ⟨j, h1, h2⟩ := ih ((List.mem_cons.mp h).resolve_left fun z => e z.symm)
      refine ⟨j + 1, by simpa using h1, fun i hi => ?_⟩
      cases i with
      | zero => simp [e]
      | succ i => simpa using h2 i (by omega)
theorem inI {p : Addr} {ns : List Int} {n : Int} (h : H p = some (.lst (ns.map V.int))) (q : Q (.bl (decide (n ∈ ns))) H) : rIn K false (.int n) (.ref p) H Q :=
  ⟨p, _, rfl, .inl (SqL.of h), rfl, flat_ints _, by rw [inV_ints]; exact q⟩
theorem ninI {p : Addr} {ns : List Int} {n : Int} (h : H p = some (.lst (ns.map V.int))) (q : Q (.bl (!decide (n ∈ ns))) H) : rIn K true (.int n) (.ref p) H Q :=
  ⟨p, _, rfl, .inl (SqL.of h), rfl, flat_ints _, by rw [inV_ints]; exact q⟩
theorem idxI {a : Addr} {ns : List Int} {n : Int} {j : Nat} (h : H a = some (.lst (ns.map V.int))) (hj : ns[j]? = some n) (hf : ∀ i, i < j → ns[i]? ≠ some n) (q : Q (.int (j : Nat)) H) : rIndex K (.ref a) [.int n] H Q :=
  ⟨a, _, _, j, .int n, rfl, rfl, SqL.of h, rfl, flat_ints _, by rw [List.getElem?_map, hj]; rfl, by rw [eqV_ints, decide_eq_true rfl], fun m z' hm hz => by
    rw [List.getElem?_map] at hz
    cases e : ns[m]? with
    | none => rw [e] at hz; cases hz
    | some x =>
      rw [e] at hz; cases hz
      rw [eqV_ints]
      exact decide_eq_false fun e2 => hf m hm (by rw [e, e2]), q⟩
theorem vals_map {n : Nat} {ns : List V} (f : Nat → Int) (ln : ns.length = n) (hn : ∀ (i : Nat) v, ns[i]? = some v → v = .int (f i)) : ns = ((List.range n).map f).map V.int := by
  refine List.ext_getElem? fun i => ?_
  rw [List.map_map, List.getElem?_map]
  by_cases hi : i < n
  · obtain ⟨v, hv⟩ : ∃ v, ns[i]? = some v := ⟨_, List.getElem?_eq_getElem (by omega)⟩
    rw [hv, List.getElem?_range hi, hn i v hv]
    rfl
  · rw [List.getElem?_eq_none (by omega), List.getElem?_eq_none (by rw [List.length_range]; omega)]
    rfl
theorem at_int {ns : List Int} {i : Int} {j : Nat} {n : Int} (e : i = (j : Int)) (h : ns[j]? = some n) : atI (ns.map V.int) i = some (.int n) := by
  subst e
  exact atI_nat (by rw [List.getElem?_map, h]; rfl)
theorem at_val {xs : List V} {i : Int} {j : Nat} (e : i = (j : Int)) (h : xs[j]? = some v) : atI xs i = some v := by
  subst e
  exact atI_nat h
theorem zr {i : Nat} {H H' : Hp} (y : YFn (fun (i : Nat) => V.int ((0 : Int) + (i : Int))) i H x H') : x = .int (i : Int) ∧ H' = H := by
  obtain ⟨a, b⟩ := y
  exact ⟨by rw [b]; show V.int (0 + (i : Int)) = _; rw [Int.zero_add], a⟩
/-! ### new objects, by what they leave -/
def NewT (Q : VK) (xs : List V) (H : Hp) : Prop := xs.length ≤ sizeLine ∧ ∀ p, H p = none → Q (.ref p) (upd H p (.tup xs))
def NewL (Q : VK) (xs : List V) (H : Hp) : Prop := xs.length ≤ sizeLine ∧ ∀ p, H p = none → Q (.ref p) (upd H p (.lst xs))
theorem tupN (h : tr σ H (NewT Q)) : tTup tr σ H Q := h
theorem lstN (h : tr σ H (NewL Q)) : tLst tr σ H Q := h
theorem nwT {xs : List V} (s : xs.length ≤ sizeLine) (h : ∀ p H', H p = none → Same H H' → H' p = some (.tup xs) → Q (.ref p) H') : NewT Q xs H := ⟨s, fun p np => h p _ np (same_new np) upd_same⟩
theorem nwL {xs : List V} (s : xs.length ≤ sizeLine) (h : ∀ p H', H p = none → Same H H' → H' p = some (.lst xs) → Q (.ref p) H') : NewL Q xs H := ⟨s, fun p np => h p _ np (same_new np) upd_same⟩
def ListOf (K : PySem.W.Frag) (Q : VK) (vs : List V) (H : Hp) : Prop := ∃ p ys, vs = [.ref p] ∧ (SqL K H p ys ∨ SqT K H p ys) ∧ ∀ l, H l = none → Q (.ref l) (upd H l (.lst ys))
theorem cbListOf (h : tr σ H (ListOf K Q)) : tCB (fun xs H Q => ∃ p ys, xs = [.ref p] ∧ (SqL K H p ys ∨ SqT K H p ys) ∧ ∀ l, H l = none → Q (.ref l) (upd H l (.lst ys))) tr σ H Q := h
theorem listOfq {a : Addr} {ys : List V} (s : SqL K H a ys) (h : ∀ p H', H p = none → Same H H' → H' p = some (.lst ys) → Q (.ref p) H') : ListOf K Q [.ref a] H := ⟨a, ys, rfl, .inl s, fun p np => h p _ np (same_new np) upd_same⟩
theorem listOf {a : Addr} {ys : List V} (s : H a = some (.lst ys)) (h : ∀ p H', H p = none → Same H H' → H' p = some (.lst ys) → Q (.ref p) H') : ListOf K Q [.ref a] H := listOfq (SqL.of s) h
def SlL (K : PySem.W.Frag) (x : V) (lo hi : Option Int) (Q : VK) (H : Hp) : Prop := ∃ a xs, x = .ref a ∧ SqL K H a xs ∧ ∀ p, H p = none → Q (.ref p) (upd H p (.lst (cutV xs lo hi)))
theorem slN {tl th : TO} (h : te σ H fun x H1 => tl σ H1 fun l H2 => th σ H2 fun u H3 => SlL K x l u Q H3) : L2.tSl (rSlL K) te tl th σ H Q := h
theorem slq {a : Addr} {xs : List V} {lo hi : Option Int} (s : SqL K H a xs) (h : ∀ p H', H p = none → Same H H' → H' p = some (.lst (cutV xs lo hi)) → Q (.ref p) H') : SlL K (.ref a) lo hi Q H := ⟨a, xs, rfl, s, fun p np => h p _ np (same_new np) upd_same⟩
theorem slo {a : Addr} {xs : List V} {lo hi : Option Int} (s : H a = some (.lst xs)) (h : ∀ p H', H p = none → Same H H' → H' p = some (.lst (cutV xs lo hi)) → Q (.ref p) H') : SlL K (.ref a) lo hi Q H := slq (SqL.of s) h
def SrtI (K : PySem.W.Frag) (Q : VK) (vs : List V) (H : Hp) : Prop := rSortedI K vs H Q
theorem cbSrtI (h : tr σ H (SrtI K Q)) : tCB (rSortedI K) tr σ H Q := h
theorem srtI {a : Addr} {ns : List Int} (s : SqL K H a (ns.map V.int)) (h : ∀ (ns' : List Int) p H', ns'.Perm ns → ns'.Pairwise (· ≤ ·) → H p = none → Same H H' → H' p = some (.lst (ns'.map V.int)) → Q (.ref p) H') : SrtI K Q [.ref a] H :=
  ⟨a, ns, rfl, s, fun ns' p e1 e2 np => h ns' p _ e1 e2 np (same_new np) upd_same⟩
theorem srtIo {a : Addr} {ns : List Int} (s : H a = some (.lst (ns.map V.int))) (h : ∀ (ns' : List Int) p H', ns'.Perm ns → ns'.Pairwise (· ≤ ·) → H p = none → Same H H' → H' p = some (.lst (ns'.map V.int)) → Q (.ref p) H') : SrtI K Q [.ref a] H := srtI (SqL.of s) h
theorem eqD {d e : PyData} (h1 : Dp K H x d) (h2 : Dp K H y e) (s1 : SeqAt.shaped d = true) (s2 : SeqAt.shaped e = true) (q : Q (.bl (PyData.eqv d e)) H) : rEqD K x y H Q := ⟨d, e, h1, h2, s1, s2, q⟩
theorem neD {d e : PyData} (h1 : Dp K H x d) (h2 : Dp K H y e) (s1 : SeqAt.shaped d = true) (s2 : SeqAt.shaped e = true) (q : Q (.bl (!PyData.eqv d e)) H) : rNeD K x y H Q := ⟨d, e, h1, h2, s1, s2, q⟩
/-! ### isinstance -/
theorem isi {T U : String} {b : Bool} (t : TyX K H x (.type T)) (k : kitB T U = some b) (q : Q (.bl b) H) : rIsi K [x, .ty U] H Q := ⟨x, .ty U, _, _, b, rfl, .ty _, t, kit_ty k, q⟩
theorem isi_ii {n : Int} (q : Q (.bl true) H) : rIsi K [.int n, .ty "int"] H Q := isi (.base (.int _)) (by decide +kernel) q
theorem isi_ib {n : Int} (q : Q (.bl false) H) : rIsi K [.int n, .ty "bool"] H Q := isi (.base (.int _)) (by decide +kernel) q
theorem isi_is {n : Int} (q : Q (.bl false) H) : rIsi K [.int n, .ty "str"] H Q := isi (.base (.int _)) (by decide +kernel) q
theorem isi_il {n : Int} (q : Q (.bl false) H) : rIsi K [.int n, .ty "list"] H Q := isi (.base (.int _)) (by decide +kernel) q
theorem isi_it {n : Int} (q : Q (.bl false) H) : rIsi K [.int n, .ty "tuple"] H Q := isi (.base (.int _)) (by decide +kernel) q
theorem isi_id {n : Int} (q : Q (.bl false) H) : rIsi K [.int n, .ty "dict"] H Q := isi (.base (.int _)) (by decide +kernel) q
theorem isi_bi {n : Bool} (q : Q (.bl true) H) : rIsi K [.bl n, .ty "int"] H Q := isi (.base (.bl _)) (by decide +kernel) q
theorem isi_bb {n : Bool} (q : Q (.bl true) H) : rIsi K [.bl n, .ty "bool"] H Q := isi (.base (.bl _)) (by decide +kernel) q
theorem isi_bs {n : Bool} (q : Q (.bl false) H) : rIsi K [.bl n, .ty "str"] H Q := isi (.base (.bl _)) (by decide +kernel) q
theorem isi_bl {n : Bool} (q : Q (.bl false) H) : rIsi K [.bl n, .ty "list"] H Q := isi (.base (.bl _)) (by decide +kernel) q
theorem isi_bt {n : Bool} (q : Q (.bl false) H) : rIsi K [.bl n, .ty "tuple"] H Q := isi (.base (.bl _)) (by decide +kernel) q
theorem isi_bd {n : Bool} (q : Q (.bl false) H) : rIsi K [.bl n, .ty "dict"] H Q := isi (.base (.bl _)) (by decide +kernel) q
theorem isi_si {n : Str} (q : Q (.bl false) H) : rIsi K [.str n, .ty "int"] H Q := isi (.base (.str _)) (by decide +kernel) q
theorem isi_sb {n : Str} (q : Q (.bl false) H) : rIsi K [.str n, .ty "bool"] H Q := isi (.base (.str _)) (by decide +kernel) q
theorem isi_ss {n : Str} (q : Q (.bl true) H) : rIsi K [.str n, .ty "str"] H Q := isi (.base (.str _)) (by decide +kernel) q
theorem isi_sl {n : Str} (q : Q (.bl false) H) : rIsi K [.str n, .ty "list"] H Q := isi (.base (.str _)) (by decide +kernel) q
theorem isi_st {n : Str} (q : Q (.bl false) H) : rIsi K [.str n, .ty "tuple"] H Q := isi (.base (.str _)) (by decide +kernel) q
theorem isi_sd {n : Str} (q : Q (.bl false) H) : rIsi K [.str n, .ty "dict"] H Q := isi (.base (.str _)) (by decide +kernel) q
theorem isi_li {n : Addr} {xs : List V} (h : H n = some (.lst xs)) (q : Q (.bl false) H) : rIsi K [.ref n, .ty "int"] H Q := isi (.base (.lst h)) (by decide +kernel) q
theorem isi_lb {n : Addr} {xs : List V} (h : H n = some (.lst xs)) (q : Q (.bl false) H) : rIsi K [.ref n, .ty "bool"] H Q := isi (.base (.lst h)) (by decide +kernel) q
theorem isi_ls {n : Addr} {xs : List V} (h : H n = some (.lst xs)) (q : Q (.bl false) H) : rIsi K [.ref n, .ty "str"] H Q := isi (.base (.lst h)) (by decide +kernel) q
theorem isi_ll {n : Addr} {xs : List V} (h : H n = some (.lst xs)) (q : Q (.bl true) H) : rIsi K [.ref n, .ty "list"] H Q := isi (.base (.lst h)) (by decide +kernel) q
theorem isi_lt {n : Addr} {xs : List V} (h : H n = some (.lst xs)) (q : Q (.bl false) H) : rIsi K [.ref n, .ty "tuple"] H Q := isi (.base (.lst h)) (by decide +kernel) q
theorem isi_ld {n : Addr} {xs : List V} (h : H n = some (.lst xs)) (q : Q (.bl false) H) : rIsi K [.ref n, .ty "dict"] H Q := isi (.base (.lst h)) (by decide +kernel) q
theorem isi_ti {n : Addr} {xs : List V} (h : H n = some (.tup xs)) (q : Q (.bl false) H) : rIsi K [.ref n, .ty "int"] H Q := isi (.base (.tup h)) (by decide +kernel) q
theorem isi_tb {n : Addr} {xs : List V} (h : H n = some (.tup xs)) (q : Q (.bl false) H) : rIsi K [.ref n, .ty "bool"] H Q := isi (.base (.tup h)) (by decide +kernel) q
theorem isi_ts {n : Addr} {xs : List V} (h : H n = some (.tup xs)) (q : Q (.bl false) H) : rIsi K [.ref n, .ty "str"] H Q := isi (.base (.tup h)) (by decide +kernel) q
theorem isi_tl {n : Addr} {xs : List V} (h : H n = some (.tup xs)) (q : Q (.bl false) H) : rIsi K [.ref n, .ty "list"] H Q := isi (.base (.tup h)) (by decide +kernel) q
theorem isi_tt {n : Addr} {xs : List V} (h : H n = some (.tup xs)) (q : Q (.bl true) H) : rIsi K [.ref n, .ty "tuple"] H Q := isi (.base (.tup h)) (by decide +kernel) q
theorem isi_td {n : Addr} {xs : List V} (h : H n = some (.tup xs)) (q : Q (.bl false) H) : rIsi K [.ref n, .ty "dict"] H Q := isi (.base (.tup h)) (by decide +kernel) q
theorem isi_ni  (q : Q (.bl false) H) : rIsi K [.non, .ty "int"] H Q := isi (.base .non) (by decide +kernel) q
theorem isi_nb  (q : Q (.bl false) H) : rIsi K [.non, .ty "bool"] H Q := isi (.base .non) (by decide +kernel) q
theorem isi_ns  (q : Q (.bl false) H) : rIsi K [.non, .ty "str"] H Q := isi (.base .non) (by decide +kernel) q
theorem isi_nl  (q : Q (.bl false) H) : rIsi K [.non, .ty "list"] H Q := isi (.base .non) (by decide +kernel) q
theorem isi_nt  (q : Q (.bl false) H) : rIsi K [.non, .ty "tuple"] H Q := isi (.base .non) (by decide +kernel) q
theorem isi_nd  (q : Q (.bl false) H) : rIsi K [.non, .ty "dict"] H Q := isi (.base .non) (by decide +kernel) q
/-! ### slices of lists -/
theorem cut_to (xs : List V) (n : Nat) : cutV xs none (some (n : Int)) = xs.take n := by
  unfold cutV
  rw [HT.sIx_nat, HT.sIx_none, List.drop_zero, Nat.sub_zero]
  rcases Nat.le_total n xs.length with h | h
  · rw [Nat.min_eq_left h]
  · rw [Nat.min_eq_right h, List.take_of_length_le (Nat.le_refl _), List.take_of_length_le h]
theorem cut_from (xs : List V) (n : Nat) : cutV xs (some (n : Int)) none = xs.drop n := by
  unfold cutV
  rw [HT.sIx_nat, HT.sIx_none]
  rcases Nat.le_total n xs.length with h | h
  · rw [Nat.min_eq_left h, List.take_of_length_le (by rw [List.length_drop]; omega)]
  · rw [Nat.min_eq_right h, List.drop_of_length_le h, List.drop_of_length_le (Nat.le_refl _), List.take_nil]
theorem eqv_self (d : PyData) (h : d.canLay0 = true) : PyData.eqv d d = true := PySem.SeqAt.eqv_refl d h
/-! ### ints of a list, filtered -/
theorem lc_fl {a : Addr} {ns : List Int} {g : TG} {tt : TT} {te : TE} {vs : List Nat} {σ : L2.St} {H1 : Hp} {C : Addr} {Qd : Hp → Prop} (p : Int → Bool) (hS : SqL K H1 a (ns.map V.int)) (nD : H1 C = none) (hn : ns.length ≤ 90000)
    (hs : ∀ (i : Nat) H (n : Int) (Kt : VK) (Kn : Hp → Prop), ns[i]? = some n → But C H1 H → (p n = true → Kt (.int n) H) → (p n = false → Kn H) → g (.int n) (wipe σ vs) H fun σ2 H2 => wipe σ2 vs = wipe σ vs ∧ tt σ2 H2 fun b H3 => if b = true then te σ2 H3 Kt else Kn H3)
    (hd : ∀ H, Same H1 H → H C = some (.lst ((ns.filter p).map V.int)) → Qd H) :
    ∃ W : Nat → Nat → Hp → Prop, (∃ m, W 0 m (upd H1 C (.lst []))) ∧ ∀ i m H, W i m H →
      ((Itl K a).stop i H ∧ Qd H) ∨ ((Itl K a).go i H ∧ ∃ Nx : Hp → Prop, (∀ H', Nx H' → ∃ m', m' < m ∧ W (i + 1) m' H') ∧ ∀ x H', (Itl K a).yld i H x H' → g x (wipe σ vs) H' fun σ2 H2 => wipe σ2 vs = wipe σ vs ∧ tt σ2 H2 fun b H3 =>
        if b = true then te σ2 H3 fun y H4 => ∃ acc, H4 C = some (.lst acc) ∧ acc.length < sizeLine ∧ Nx (upd H4 C (.lst (acc ++ [y]))) else Nx H3) := by
  refine lc_it (walk_list (xs := ns.map V.int)) (fun i H => But C H1 H ∧ H C = some (.lst (((ns.take i).filter p).map V.int))) ⟨But.at_, by simp [upd_same]⟩ (fun i H _ h => (h.1.to nD).seq hS) (fun i x H H' hi ⟨b, hD⟩ y => ?_) (fun H ⟨b, hD⟩ => ?_)
  · obtain ⟨rfl, hx⟩ := y
    rw [List.getElem?_map] at hx
    obtain ⟨n, hn2, rfl⟩ : ∃ n, ns[i]? = some n ∧ V.int n = x := by
      cases e : ns[i]? with
      | none => rw [e] at hx; cases hx
      | some n => rw [e] at hx; exact ⟨n, rfl, Option.some.inj hx⟩
    have tk : (ns.take (i + 1)).filter p = (ns.take i).filter p ++ [n].filter p := by
      rw [List.take_add_one, hn2, List.filter_append]; rfl
    refine hs i _ n _ _ hn2 b (fun hp => ?_) (fun hp => ?_)
    · refine ⟨_, hD, szl ?_, b.trans But.at_, ?_⟩
      · rw [List.length_map]
        have := List.length_filter_le p (ns.take i)
        rw [List.length_take] at this
        omega
      · rw [upd_same, tk, List.filter_cons_of_pos hp]
        simp
    · refine ⟨b, ?_⟩
      rw [tk, List.filter_cons_of_neg (by simp [hp])]
      simpa using hD
  · rw [List.length_map, List.take_of_length_le (Nat.le_refl _)] at hD
    exact hd H (b.to nD) hD
theorem intI {i : Int} {A : Int → Prop} {B : Prop} (h : A i) : (∃ j, [V.int i] = [.int j] ∧ A j) ∨ B := .inl ⟨i, rfl, h⟩
theorem pos_ne {i : Int} (h : 0 < i) : i ≠ 0 := by omega
theorem ifnT {A B : Prop} (h : B) : if (!true) = true then A else B := by rw [if_neg (by decide)]; exact h
theorem ifnF {A B : Prop} (h : A) : if (!false) = true then A else B := by rw [if_pos (by decide)]; exact h
theorem cbListOfR {tr : TA} (h : tr σ H (ListOf K Q)) : tCB (rListOf K) tr σ H Q := h
def CatL (Q : VK) (x y : V) (H : Hp) : Prop := ∃ l b xs zs, x = .ref l ∧ y = .ref b ∧ H l = some (.lst xs) ∧ H b = some (.lst zs) ∧ xs.length + zs.length ≤ sizeLine ∧ ∀ p, H p = none → Q (.ref p) (upd H p (.lst (xs ++ zs)))
theorem catI (h : CatL Q x y H) : rCat x y H Q := h
theorem cat {a b : Addr} {xs zs : List V} (h1 : H a = some (.lst xs)) (h2 : H b = some (.lst zs)) (s : xs.length + zs.length ≤ 100000) (h : ∀ p H', H p = none → Same H H' → H' p = some (.lst (xs ++ zs)) → Q (.ref p) H') : CatL Q (.ref a) (.ref b) H := ⟨a, b, xs, zs, rfl, rfl, h1, h2, sz s, fun p np => h p _ np (same_new np) upd_same⟩
theorem v16 {a0 a1 a2 a3 a4 a5 a6 a7 a8 a9 a10 a11 a12 a13 a14 a15 : Option V} (h : Q v H) : tVar 16 (a0 :: a1 :: a2 :: a3 :: a4 :: a5 :: a6 :: a7 :: a8 :: a9 :: a10 :: a11 :: a12 :: a13 :: a14 :: a15 :: some v :: r) H Q := ⟨v, rfl, h⟩
theorem n16 {a0 a1 a2 a3 a4 a5 a6 a7 a8 a9 a10 a11 a12 a13 a14 a15 : Option V} {Q : L2.St → Hp → Prop} (h : Q (a0 :: a1 :: a2 :: a3 :: a4 :: a5 :: a6 :: a7 :: a8 :: a9 :: a10 :: a11 :: a12 :: a13 :: a14 :: a15 :: some v :: r) H) : gName 16 v (a0 :: a1 :: a2 :: a3 :: a4 :: a5 :: a6 :: a7 :: a8 :: a9 :: a10 :: a11 :: a12 :: a13 :: a14 :: a15 :: a :: r) H Q := h
theorem g16 {a0 a1 a2 a3 a4 a5 a6 a7 a8 a9 a10 a11 a12 a13 a14 a15 : Option V} {ti : TIp} (h : te (a0 :: a1 :: a2 :: a3 :: a4 :: a5 :: a6 :: a7 :: a8 :: a9 :: a10 :: a11 :: a12 :: a13 :: a14 :: a15 :: some x :: r) H fun y H1 => ti x y H1 fun z H2 => D.nx (a0 :: a1 :: a2 :: a3 :: a4 :: a5 :: a6 :: a7 :: a8 :: a9 :: a10 :: a11 :: a12 :: a13 :: a14 :: a15 :: some z :: r) H2) : tAug 16 te ti D (a0 :: a1 :: a2 :: a3 :: a4 :: a5 :: a6 :: a7 :: a8 :: a9 :: a10 :: a11 :: a12 :: a13 :: a14 :: a15 :: some x :: r) H := ⟨x, rfl, h⟩
theorem v17 {a0 a1 a2 a3 a4 a5 a6 a7 a8 a9 a10 a11 a12 a13 a14 a15 a16 : Option V} (h : Q v H) : tVar 17 (a0 :: a1 :: a2 :: a3 :: a4 :: a5 :: a6 :: a7 :: a8 :: a9 :: a10 :: a11 :: a12 :: a13 :: a14 :: a15 :: a16 :: some v :: r) H Q := ⟨v, rfl, h⟩
theorem n17 {a0 a1 a2 a3 a4 a5 a6 a7 a8 a9 a10 a11 a12 a13 a14 a15 a16 : Option V} {Q : L2.St → Hp → Prop} (h : Q (a0 :: a1 :: a2 :: a3 :: a4 :: a5 :: a6 :: a7 :: a8 :: a9 :: a10 :: a11 :: a12 :: a13 :: a14 :: a15 :: a16 :: some v :: r) H) : gName 17 v (a0 :: a1 :: a2 :: a3 :: a4 :: a5 :: a6 :: a7 :: a8 :: a9 :: a10 :: a11 :: a12 :: a13 :: a14 :: a15 :: a16 :: a :: r) H Q := h
theorem g17 {a0 a1 a2 a3 a4 a5 a6 a7 a8 a9 a10 a11 a12 a13 a14 a15 a16 : Option V} {ti : TIp} (h : te (a0 :: a1 :: a2 :: a3 :: a4 :: a5 :: a6 :: a7 :: a8 :: a9 :: a10 :: a11 :: a12 :: a13 :: a14 :: a15 :: a16 :: some x :: r) H fun y H1 => ti x y H1 fun z H2 => D.nx (a0 :: a1 :: a2 :: a3 :: a4 :: a5 :: a6 :: a7 :: a8 :: a9 :: a10 :: a11 :: a12 :: a13 :: a14 :: a15 :: a16 :: some z :: r) H2) : tAug 17 te ti D (a0 :: a1 :: a2 :: a3 :: a4 :: a5 :: a6 :: a7 :: a8 :: a9 :: a10 :: a11 :: a12 :: a13 :: a14 :: a15 :: a16 :: some x :: r) H := ⟨x, rfl, h⟩
theorem v18 {a0 a1 a2 a3 a4 a5 a6 a7 a8 a9 a10 a11 a12 a13 a14 a15 a16 a17 : Option V} (h : Q v H) : tVar 18 (a0 :: a1 :: a2 :: a3 :: a4 :: a5 :: a6 :: a7 :: a8 :: a9 :: a10 :: a11 :: a12 :: a13 :: a14 :: a15 :: a16 :: a17 :: some v :: r) H Q := ⟨v, rfl, h⟩
theorem n18 {a0 a1 a2 a3 a4 a5 a6 a7 a8 a9 a10 a11 a12 a13 a14 a15 a16 a17 : Option V} {Q : L2.St → Hp → Prop} (h : Q (a0 :: a1 :: a2 :: a3 :: a4 :: a5 :: a6 :: a7 :: a8 :: a9 :: a10 :: a11 :: a12 :: a13 :: a14 :: a15 :: a16 :: a17 :: some v :: r) H) : gName 18 v (a0 :: a1 :: a2 :: a3 :: a4 :: a5 :: a6 :: a7 :: a8 :: a9 :: a10 :: a11 :: a12 :: a13 :: a14 :: a15 :: a16 :: a17 :: a :: r) H Q := h
theorem g18 {a0 a1 a2 a3 a4 a5 a6 a7 a8 a9 a10 a11 a12 a13 a14 a15 a16 a17 : Option V} {ti : TIp} (h : te (a0 :: a1 :: a2 :: a3 :: a4 :: a5 :: a6 :: a7 :: a8 :: a9 :: a10 :: a11 :: a12 :: a13 :: a14 :: a15 :: a16 :: a17 :: some x :: r) H fun y H1 => ti x y H1 fun z H2 => D.nx (a0 :: a1 :: a2 :: a3 :: a4 :: a5 :: a6 :: a7 :: a8 :: a9 :: a10 :: a11 :: a12 :: a13 :: a14 :: a15 :: a16 :: a17 :: some z :: r) H2) : tAug 18 te ti D (a0 :: a1 :: a2 :: a3 :: a4 :: a5 :: a6 :: a7 :: a8 :: a9 :: a10 :: a11 :: a12 :: a13 :: a14 :: a15 :: a16 :: a17 :: some x :: r) H := ⟨x, rfl, h⟩
theorem v19 {a0 a1 a2 a3 a4 a5 a6 a7 a8 a9 a10 a11 a12 a13 a14 a15 a16 a17 a18 : Option V} (h : Q v H) : tVar 19 (a0 :: a1 :: a2 :: a3 :: a4 :: a5 :: a6 :: a7 :: a8 :: a9 :: a10 :: a11 :: a12 :: a13 :: a14 :: a15 :: a16 :: a17 :: a18 :: some v :: r) H Q := ⟨v, rfl, h⟩
theorem n19 {a0 a1 a2 a3 a4 a5 a6 a7 a8 a9 a10 a11 a12 a13 a14 a15 a16 a17 a18 : Option V} {Q : L2.St → Hp → Prop} (h : Q (a0 :: a1 :: a2 :: a3 :: a4 :: a5 :: a6 :: a7 :: a8 :: a9 :: a10 :: a11 :: a12 :: a13 :: a14 :: a15 :: a16 :: a17 :: a18 :: some v :: r) H) : gName 19 v (a0 :: a1 :: a2 :: a3 :: a4 :: a5 :: a6 :: a7 :: a8 :: a9 :: a10 :: a11 :: a12 :: a13 :: a14 :: a15 :: a16 :: a17 :: a18 :: a :: r) H Q := h
theorem g19 {a0 a1 a2 a3 a4 a5 a6 a7 a8 a9 a10 a11 a12 a13 a14 a15 a16 a17 a18 : Option V} {ti : TIp} (h : te (a0 :: a1 :: a2 :: a3 :: a4 :: a5 :: a6 :: a7 :: a8 :: a9 :: a10 :: a11 :: a12 :: a13 :: a14 :: a15 :: a16 :: a17 :: a18 :: some x :: r) H fun y H1 => ti x y H1 fun z H2 => D.nx (a0 :: a1 :: a2 :: a3 :: a4 :: a5 :: a6 :: a7 :: a8 :: a9 :: a10 :: a11 :: a12 :: a13 :: a14 :: a15 :: a16 :: a17 :: a18 :: some z :: r) H2) : tAug 19 te ti D (a0 :: a1 :: a2 :: a3 :: a4 :: a5 :: a6 :: a7 :: a8 :: a9 :: a10 :: a11 :: a12 :: a13 :: a14 :: a15 :: a16 :: a17 :: a18 :: some x :: r) H := ⟨x, rfl, h⟩
theorem v20 {a0 a1 a2 a3 a4 a5 a6 a7 a8 a9 a10 a11 a12 a13 a14 a15 a16 a17 a18 a19 : Option V} (h : Q v H) : tVar 20 (a0 :: a1 :: a2 :: a3 :: a4 :: a5 :: a6 :: a7 :: a8 :: a9 :: a10 :: a11 :: a12 :: a13 :: a14 :: a15 :: a16 :: a17 :: a18 :: a19 :: some v :: r) H Q := ⟨v, rfl, h⟩
theorem n20 {a0 a1 a2 a3 a4 a5 a6 a7 a8 a9 a10 a11 a12 a13 a14 a15 a16 a17 a18 a19 : Option V} {Q : L2.St → Hp → Prop} (h : Q (a0 :: a1 :: a2 :: a3 :: a4 :: a5 :: a6 :: a7 :: a8 :: a9 :: a10 :: a11 :: a12 :: a13 :: a14 :: a15 :: a16 :: a17 :: a18 :: a19 :: some v :: r) H) : gName 20 v (a0 :: a1 :: a2 :: a3 :: a4 :: a5 :: a6 :: a7 :: a8 :: a9 :: a10 :: a11 :: a12 :: a13 :: a14 :: a15 :: a16 :: a17 :: a18 :: a19 :: a :: r) H Q := h
theorem g20 {a0 a1 a2 a3 a4 a5 a6 a7 a8 a9 a10 a11 a12 a13 a14 a15 a16 a17 a18 a19 : Option V} {ti : TIp} (h : te (a0 :: a1 :: a2 :: a3 :: a4 :: a5 :: a6 :: a7 :: a8 :: a9 :: a10 :: a11 :: a12 :: a13 :: a14 :: a15 :: a16 :: a17 :: a18 :: a19 :: some x :: r) H fun y H1 => ti x y H1 fun z H2 => D.nx (a0 :: a1 :: a2 :: a3 :: a4 :: a5 :: a6 :: a7 :: a8 :: a9 :: a10 :: a11 :: a12 :: a13 :: a14 :: a15 :: a16 :: a17 :: a18 :: a19 :: some z :: r) H2) : tAug 20 te ti D (a0 :: a1 :: a2 :: a3 :: a4 :: a5 :: a6 :: a7 :: a8 :: a9 :: a10 :: a11 :: a12 :: a13 :: a14 :: a15 :: a16 :: a17 :: a18 :: a19 :: some x :: r) H := ⟨x, rfl, h⟩
theorem v21 {a0 a1 a2 a3 a4 a5 a6 a7 a8 a9 a10 a11 a12 a13 a14 a15 a16 a17 a18 a19 a20 : Option V} (h : Q v H) : tVar 21 (a0 :: a1 :: a2 :: a3 :: a4 :: a5 :: a6 :: a7 :: a8 :: a9 :: a10 :: a11 :: a12 :: a13 :: a14 :: a15 :: a16 :: a17 :: a18 :: a19 :: a20 :: some v :: r) H Q := ⟨v, rfl, h⟩
theorem n21 {a0 a1 a2 a3 a4 a5 a6 a7 a8 a9 a10 a11 a12 a13 a14 a15 a16 a17 a18 a19 a20 : Option V} {Q : L2.St → Hp → Prop} (h : Q (a0 :: a1 :: a2 :: a3 :: a4 :: a5 :: a6 :: a7 :: a8 :: a9 :: a10 :: a11 :: a12 :: a13 :: a14 :: a15 :: a16 :: a17 :: a18 :: a19 :: a20 :: some v :: r) H) : gName 21 v (a0 :: a1 :: a2 :: a3 :: a4 :: a5 :: a6 :: a7 :: a8 :: a9 :: a10 :: a11 :: a12 :: a13 :: a14 :: a15 :: a16 :: a17 :: a18 :: a19 :: a20 :: a :: r) H Q := h
theorem g21 {a0 a1 a2 a3 a4 a5 a6 a7 a8 a9 a10 a11 a12 a13 a14 a15 a16 a17 a18 a19 a20 : Option V} {ti : TIp} (h : te (a0 :: a1 :: a2 :: a3 :: a4 :: a5 :: a6 :: a7 :: a8 :: a9 :: a10 :: a11 :: a12 :: a13 :: a14 :: a15 :: a16 :: a17 :: a18 :: a19 :: a20 :: some x :: r) H fun y H1 => ti x y H1 fun z H2 => D.nx (a0 :: a1 :: a2 :: a3 :: a4 :: a5 :: a6 :: a7 :: a8 :: a9 :: a10 :: a11 :: a12 :: a13 :: a14 :: a15 :: a16 :: a17 :: a18 :: a19 :: a20 :: some z :: r) H2) : tAug 21 te ti D (a0 :: a1 :: a2 :: a3 :: a4 :: a5 :: a6 :: a7 :: a8 :: a9 :: a10 :: a11 :: a12 :: a13 :: a14 :: a15 :: a16 :: a17 :: a18 :: a19 :: a20 :: some x :: r) H := ⟨x, rfl, h⟩
theorem v22 {a0 a1 a2 a3 a4 a5 a6 a7 a8 a9 a10 a11 a12 a13 a14 a15 a16 a17 a18 a19 a20 a21 : Option V} (h : Q v H) : tVar 22 (a0 :: a1 :: a2 :: a3 :: a4 :: a5 :: a6 :: a7 :: a8 :: a9 :: a10 :: a11 :: a12 :: a13 :: a14 :: a15 :: a16 :: a17 :: a18 :: a19 :: a20 :: a21 :: some v :: r) H Q := ⟨v, rfl, h⟩
theorem n22 {a0 a1 a2 a3 a4 a5 a6 a7 a8 a9 a10 a11 a12 a13 a14 a15 a16 a17 a18 a19 a20 a21 : Option V} {Q : L2.St → Hp → Prop} (h : Q (a0 :: a1 :: a2 :: a3 :: a4 :: a5 :: a6 :: a7 :: a8 :: a9 :: a10 :: a11 :: a12 :: a13 :: a14 :: a15 :: a16 :: a17 :: a18 :: a19 :: a20 :: a21 :: some v :: r) H) : gName 22 v (a0 :: a1 :: a2 :: a3 :: a4 :: a5 :: a6 :: a7 :: a8 :: a9 :: a10 :: a11 :: a12 :: a13 :: a14 :: a15 :: a16 :: a17 :: a18 :: a19 :: a20 :: a21 :: a :: r) H Q := h
theorem g22 {a0 a1 a2 a3 a4 a5 a6 a7 a8 a9 a10 a11 a12 a13 a14 a15 a16 a17 a18 a19 a20 a21 : Option V} {ti : TIp} (h : te (a0 :: a1 :: a2 :: a3 :: a4 :: a5 :: a6 :: a7 :: a8 :: a9 :: a10 :: a11 :: a12 :: a13 :: a14 :: a15 :: a16 :: a17 :: a18 :: a19 :: a20 :: a21 :: some x :: r) H fun y H1 => ti x y H1 fun z H2 => D.nx (a0 :: a1 :: a2 :: a3 :: a4 :: a5 :: a6 :: a7 :: a8 :: a9 :: a10 :: a11 :: a12 :: a13 :: a14 :: a15 :: a16 :: a17 :: a18 :: a19 :: a20 :: a21 :: some z :: r) H2) : tAug 22 te ti D (a0 :: a1 :: a2 :: a3 :: a4 :: a5 :: a6 :: a7 :: a8 :: a9 :: a10 :: a11 :: a12 :: a13 :: a14 :: a15 :: a16 :: a17 :: a18 :: a19 :: a20 :: a21 :: some x :: r) H := ⟨x, rfl, h⟩
theorem v23 {a0 a1 a2 a3 a4 a5 a6 a7 a8 a9 a10 a11 a12 a13 a14 a15 a16 a17 a18 a19 a20 a21 a22 : Option V} (h : Q v H) : tVar 23 (a0 :: a1 :: a2 :: a3 :: a4 :: a5 :: a6 :: a7 :: a8 :: a9 :: a10 :: a11 :: a12 :: a13 :: a14 :: a15 :: a16 :: a17 :: a18 :: a19 :: a20 :: a21 :: a22 :: some v :: r) H Q := ⟨v, rfl, h⟩
theorem n23 {a0 a1 a2 a3 a4 a5 a6 a7 a8 a9 a10 a11 a12 a13 a14 a15 a16 a17 a18 a19 a20 a21 a22 : Option V} {Q : L2.St → Hp → Prop} (h : Q (a0 :: a1 :: a2 :: a3 :: a4 :: a5 :: a6 :: a7 :: a8 :: a9 :: a10 :: a11 :: a12 :: a13 :: a14 :: a15 :: a16 :: a17 :: a18 :: a19 :: a20 :: a21 :: a22 :: some v :: r) H) : gName 23 v (a0 :: a1 :: a2 :: a3 :: a4 :: a5 :: a6 :: a7 :: a8 :: a9 :: a10 :: a11 :: a12 :: a13 :: a14 :: a15 :: a16 :: a17 :: a18 :: a19 :: a20 :: a21 :: a22 :: a :: r) H Q := h
theorem g23 {a0 a1 a2 a3 a4 a5 a6 a7 a8 a9 a10 a11 a12 a13 a14 a15 a16 a17 a18 a19 a20 a21 a22 : Option V} {ti : TIp} (h : te (a0 :: a1 :: a2 :: a3 :: a4 :: a5 :: a6 :: a7 :: a8 :: a9 :: a10 :: a11 :: a12 :: a13 :: a14 :: a15 :: a16 :: a17 :: a18 :: a19 :: a20 :: a21 :: a22 :: some x :: r) H fun y H1 => ti x y H1 fun z H2 => D.nx (a0 :: a1 :: a2 :: a3 :: a4 :: a5 :: a6 :: a7 :: a8 :: a9 :: a10 :: a11 :: a12 :: a13 :: a14 :: a15 :: a16 :: a17 :: a18 :: a19 :: a20 :: a21 :: a22 :: some z :: r) H2) : tAug 23 te ti D (a0 :: a1 :: a2 :: a3 :: a4 :: a5 :: a6 :: a7 :: a8 :: a9 :: a10 :: a11 :: a12 :: a13 :: a14 :: a15 :: a16 :: a17 :: a18 :: a19 :: a20 :: a21 :: a22 :: some x :: r) H := ⟨x, rfl, h⟩
theorem v24 {a0 a1 a2 a3 a4 a5 a6 a7 a8 a9 a10 a11 a12 a13 a14 a15 a16 a17 a18 a19 a20 a21 a22 a23 : Option V} (h : Q v H) : tVar 24 (a0 :: a1 :: a2 :: a3 :: a4 :: a5 :: a6 :: a7 :: a8 :: a9 :: a10 :: a11 :: a12 :: a13 :: a14 :: a15 :: a16 :: a17 :: a18 :: a19 :: a20 :: a21 :: a22 :: a23 :: some v :: r) H Q := ⟨v, rfl, h⟩
theorem n24 {a0 a1 a2 a3 a4 a5 a6 a7 a8 a9 a10 a11 a12 a13 a14 a15 a16 a17 a18 a19 a20 a21 a22 a23 : Option V} {Q : L2.St → Hp → Prop} (h : Q (a0 :: a1 :: a2 :: a3 :: a4 :: a5 :: a6 :: a7 :: a8 :: a9 :: a10 :: a11 :: a12 :: a13 :: a14 :: a15 :: a16 :: a17 :: a18 :: a19 :: a20 :: a21 :: a22 :: a23 :: some v :: r) H) : gName 24 v (a0 :: a1 :: a2 :: a3 :: a4 :: a5 :: a6 :: a7 :: a8 :: a9 :: a10 :: a11 :: a12 :: a13 :: a14 :: a15 :: a16 :: a17 :: a18 :: a19 :: a20 :: a21 :: a22 :: a23 :: a :: r) H Q := h
theorem g24 {a0 a1 a2 a3 a4 a5 a6 a7 a8 a9 a10 a11 a12 a13 a14 a15 a16 a17 a18 a19 a20 a21 a22 a23 : Option V} {ti : TIp} (h : te (a0 :: a1 :: a2 :: a3 :: a4 :: a5 :: a6 :: a7 :: a8 :: a9 :: a10 :: a11 :: a12 :: a13 :: a14 :: a15 :: a16 :: a17 :: a18 :: a19 :: a20 :: a21 :: a22 :: a23 :: some x :: r) H fun y H1 => ti x y H1 fun z H2 => D.nx (a0 :: a1 :: a2 :: a3 :: a4 :: a5 :: a6 :: a7 :: a8 :: a9 :: a10 :: a11 :: a12 :: a13 :: a14 :: a15 :: a16 :: a17 :: a18 :: a19 :: a20 :: a21 :: a22 :: a23 :: some z :: r) H2) : tAug 24 te ti D (a0 :: a1 :: a2 :: a3 :: a4 :: a5 :: a6 :: a7 :: a8 :: a9 :: a10 :: a11 :: a12 :: a13 :: a14 :: a15 :: a16 :: a17 :: a18 :: a19 :: a20 :: a21 :: a22 :: a23 :: some x :: r) H := ⟨x, rfl, h⟩
theorem v25 {a0 a1 a2 a3 a4 a5 a6 a7 a8 a9 a10 a11 a12 a13 a14 a15 a16 a17 a18 a19 a20 a21 a22 a23 a24 : Option V} (h : Q v H) : tVar 25 (a0 :: a1 :: a2 :: a3 :: a4 :: a5 :: a6 :: a7 :: a8 :: a9 :: a10 :: a11 :: a12 :: a13 :: a14 :: a15 :: a16 :: a17 :: a18 :: a19 :: a20 :: a21 :: a22 :: a23 :: a24 :: some v :: r) H Q := ⟨v, rfl, h⟩
theorem n25 {a0 a1 a2 a3 a4 a5 a6 a7 a8 a9 a10 a11 a12 a13 a14 a15 a16 a17 a18 a19 a20 a21 a22 a23 a24 : Option V} {Q : L2.St → Hp → Prop} (h : Q (a0 :: a1 :: a2 :: a3 :: a4 :: a5 :: a6 :: a7 :: a8 :: a9 :: a10 :: a11 :: a12 :: a13 :: a14 :: a15 :: a16 :: a17 :: a18 :: a19 :: a20 :: a21 :: a22 :: a23 :: a24 :: some v :: r) H) : gName 25 v (a0 :: a1 :: a2 :: a3 :: a4 :: a5 :: a6 :: a7 :: a8 :: a9 :: a10 :: a11 :: a12 :: a13 :: a14 :: a15 :: a16 :: a17 :: a18 :: a19 :: a20 :: a21 :: a22 :: a23 :: a24 :: a :: r) H Q := h
theorem g25 {a0 a1 a2 a3 a4 a5 a6 a7 a8 a9 a10 a11 a12 a13 a14 a15 a16 a17 a18 a19 a20 a21 a22 a23 a24 : Option V} {ti : TIp} (h : te (a0 :: a1 :: a2 :: a3 :: a4 :: a5 :: a6 :: a7 :: a8 :: a9 :: a10 :: a11 :: a12 :: a13 :: a14 :: a15 :: a16 :: a17 :: a18 :: a19 :: a20 :: a21 :: a22 :: a23 :: a24 :: some x :: r) H fun y H1 => ti x y H1 fun z H2 => D.nx (a0 :: a1 :: a2 :: a3 :: a4 :: a5 :: a6 :: a7 :: a8 :: a9 :: a10 :: a11 :: a12 :: a13 :: a14 :: a15 :: a16 :: a17 :: a18 :: a19 :: a20 :: a21 :: a22 :: a23 :: a24 :: some z :: r) H2) : tAug 25 te ti D (a0 :: a1 :: a2 :: a3 :: a4 :: a5 :: a6 :: a7 :: a8 :: a9 :: a10 :: a11 :: a12 :: a13 :: a14 :: a15 :: a16 :: a17 :: a18 :: a19 :: a20 :: a21 :: a22 :: a23 :: a24 :: some x :: r) H := ⟨x, rfl, h⟩
theorem v26 {a0 a1 a2 a3 a4 a5 a6 a7 a8 a9 a10 a11 a12 a13 a14 a15 a16 a17 a18 a19 a20 a21 a22 a23 a24 a25 : Option V} (h : Q v H) : tVar 26 (a0 :: a1 :: a2 :: a3 :: a4 :: a5 :: a6 :: a7 :: a8 :: a9 :: a10 :: a11 :: a12 :: a13 :: a14 :: a15 :: a16 :: a17 :: a18 :: a19 :: a20 :: a21 :: a22 :: a23 :: a24 :: a25 :: some v :: r) H Q := ⟨v, rfl, h⟩
theorem n26 {a0 a1 a2 a3 a4 a5 a6 a7 a8 a9 a10 a11 a12 a13 a14 a15 a16 a17 a18 a19 a20 a21 a22 a23 a24 a25 : Option V} {Q : L2.St → Hp → Prop} (h : Q (a0 :: a1 :: a2 :: a3 :: a4 :: a5 :: a6 :: a7 :: a8 :: a9 :: a10 :: a11 :: a12 :: a13 :: a14 :: a15 :: a16 :: a17 :: a18 :: a19 :: a20 :: a21 :: a22 :: a23 :: a24 :: a25 :: some v :: r) H) : gName 26 v (a0 :: a1 :: a2 :: a3 :: a4 :: a5 :: a6 :: a7 :: a8 :: a9 :: a10 :: a11 :: a12 :: a13 :: a14 :: a15 :: a16 :: a17 :: a18 :: a19 :: a20 :: a21 :: a22 :: a23 :: a24 :: a25 :: a :: r) H Q := h
theorem g26 {a0 a1 a2 a3 a4 a5 a6 a7 a8 a9 a10 a11 a12 a13 a14 a15 a16 a17 a18 a19 a20 a21 a22 a23 a24 a25 : Option V} {ti : TIp} (h : te (a0 :: a1 :: a2 :: a3 :: a4 :: a5 :: a6 :: a7 :: a8 :: a9 :: a10 :: a11 :: a12 :: a13 :: a14 :: a15 :: a16 :: a17 :: a18 :: a19 :: a20 :: a21 :: a22 :: a23 :: a24 :: a25 :: some x :: r) H fun y H1 => ti x y H1 fun z H2 => D.nx (a0 :: a1 :: a2 :: a3 :: a4 :: a5 :: a6 :: a7 :: a8 :: a9 :: a10 :: a11 :: a12 :: a13 :: a14 :: a15 :: a16 :: a17 :: a18 :: a19 :: a20 :: a21 :: a22 :: a23 :: a24 :: a25 :: some z :: r) H2) : tAug 26 te ti D (a0 :: a1 :: a2 :: a3 :: a4 :: a5 :: a6 :: a7 :: a8 :: a9 :: a10 :: a11 :: a12 :: a13 :: a14 :: a15 :: a16 :: a17 :: a18 :: a19 :: a20 :: a21 :: a22 :: a23 :: a24 :: a25 :: some x :: r) H := ⟨x, rfl, h⟩
theorem v27 {a0 a1 a2 a3 a4 a5 a6 a7 a8 a9 a10 a11 a12 a13 a14 a15 a16 a17 a18 a19 a20 a21 a22 a23 a24 a25 a26 : Option V} (h : Q v H) : tVar 27 (a0 :: a1 :: a2 :: a3 :: a4 :: a5 :: a6 :: a7 :: a8 :: a9 :: a10 :: a11 :: a12 :: a13 :: a14 :: a15 :: a16 :: a17 :: a18 :: a19 :: a20 :: a21 :: a22 :: a23 :: a24 :: a25 :: a26 :: some v :: r) H Q := ⟨v, rfl, h⟩
theorem n27 {a0 a1 a2 a3 a4 a5 a6 a7 a8 a9 a10 a11 a12 a13 a14 a15 a16 a17 a18 a19 a20 a21 a22 a23 a24 a25 a26 : Option V} {Q : L2.St → Hp → Prop} (h : Q (a0 :: a1 :: a2 :: a3 :: a4 :: a5 :: a6 :: a7 :: a8 :: a9 :: a10 :: a11 :: a12 :: a13 :: a14 :: a15 :: a16 :: a17 :: a18 :: a19 :: a20 :: a21 :: a22 :: a23 :: a24 :: a25 :: a26 :: some v :: r) H) : gName 27 v (a0 :: a1 :: a2 :: a3 :: a4 :: a5 :: a6 :: a7 :: a8 :: a9 :: a10 :: a11 :: a12 :: a13 :: a14 :: a15 :: a16 :: a17 :: a18 :: a19 :: a20 :: a21 :: a22 :: a23 :: a24 :: a25 :: a26 :: a :: r) H Q := h
theorem g27 {a0 a1 a2 a3 a4 a5 a6 a7 a8 a9 a10 a11 a12 a13 a14 a15 a16 a17 a18 a19 a20 a21 a22 a23 a24 a25 a26 : Option V} {ti : TIp} (h : te (a0 :: a1 :: a2 :: a3 :: a4 :: a5 :: a6 :: a7 :: a8 :: a9 :: a10 :: a11 :: a12 :: a13 :: a14 :: a15 :: a16 :: a17 :: a18 :: a19 :: a20 :: a21 :: a22 :: a23 :: a24 :: a25 :: a26 :: some x :: r) H fun y H1 => ti x y H1 fun z H2 => D.nx (a0 :: a1 :: a2 :: a3 :: a4 :: a5 :: a6 :: a7 :: a8 :: a9 :: a10 :: a11 :: a12 :: a13 :: a14 :: a15 :: a16 :: a17 :: a18 :: a19 :: a20 :: a21 :: a22 :: a23 :: a24 :: a25 :: a26 :: some z :: r) H2) : tAug 27 te ti D (a0 :: a1 :: a2 :: a3 :: a4 :: a5 :: a6 :: a7 :: a8 :: a9 :: a10 :: a11 :: a12 :: a13 :: a14 :: a15 :: a16 :: a17 :: a18 :: a19 :: a20 :: a21 :: a22 :: a23 :: a24 :: a25 :: a26 :: some x :: r) H := ⟨x, rfl, h⟩
end Rd

set_option Elab.async false
set_option linter.all false
set_option maxRecDepth 100000
namespace Rd
open PySem PySem.Spec PyProof.Rows L2
variable {K : PySem.W.Frag} {σ : L2.St} {H : Hp} {D : Ends} {Q : VK} {ta tb te tv : TE} {x y v : V} {tr : TA} {f m : Str} {C : Addr} {sp : Sp} {dvs : List V} {E : XK}
/-! ### objects of own classes -/
def FldG (K : PySem.W.Frag) (x : V) (f : Str) (Q : VK) (H : Hp) : Prop := ∃ a C dx fs v, x = .ref a ∧ H a = some (.ins C dx fs) ∧ Cls K C ∧ NoAttr K C f ∧ fs.lookup f = some v ∧ Q v H
theorem fld (h : te σ H fun x H1 => FldG K x f Q H1) : tFld K te f σ H Q := h
theorem fldI {a dx : Addr} {fs : List (Str × V)} (h : H a = some (.ins C dx fs)) (c : Cls K C) (n : NoAttr K C f) (e : fs.lookup f = some v) (q : Q v H) : FldG K (.ref a) f Q H := ⟨a, C, dx, fs, v, rfl, h, c, n, e, q⟩
def SfG (K : PySem.W.Frag) (x : V) (f : Str) (y : V) (D : Ends) (σ : L2.St) (H : Hp) : Prop := ∃ a C dx fs, x = .ref a ∧ H a = some (.ins C dx fs) ∧ Cls K C ∧ NoAttr K C f ∧ fs.length < 1000 ∧ D.nx σ (upd H a (.ins C dx (putF f y fs)))
theorem sfld (h : tv σ H fun y H1 => ta σ H1 fun x H2 => SfG K x f y D σ H2) : sFld K ta tv f D σ H := h
theorem sfldI {a dx : Addr} {fs : List (Str × V)} (h : H a = some (.ins C dx fs)) (c : Cls K C) (n : NoAttr K C f) (l : fs.length < 1000) (q : D.nx σ (upd H a (.ins C dx (putF f y fs)))) : SfG K (.ref a) f y D σ H := ⟨a, C, dx, fs, rfl, h, c, n, l, q⟩
def MtG (C : Addr) (m : Str) (sp : Sp) (dvs : List V) (E : XK) (t : TA) (σ : L2.St) (Q : VK) (x : V) (H : Hp) : Prop := ∃ a dx fs, x = .ref a ∧ H a = some (.ins C dx fs) ∧ fs.lookup m = none ∧ t σ H fun vs H2 => sp (x :: (vs ++ dvs)) H2 Q E
theorem meth (h : ta σ H fun x H1 => MtG C m sp dvs E tr σ Q x H1) : tMeth C m sp dvs E ta tr σ H Q := h
theorem methI {a dx : Addr} {fs : List (Str × V)} (h : H a = some (.ins C dx fs)) (n : fs.lookup m = none) (q : tr σ H fun vs H2 => sp (.ref a :: (vs ++ dvs)) H2 Q E) : MtG C m sp dvs E tr σ Q (.ref a) H := ⟨a, dx, fs, rfl, h, n, q⟩
def MkG (C : Addr) (sp : Sp) (dvs : List V) (E : XK) (Q : VK) (vs : List V) (H1 : Hp) : Prop := ∀ x dx, H1 x = none → H1 dx = none → dx ≠ x → sp (.ref x :: (vs ++ dvs)) (upd (upd H1 dx (.own x)) x (.ins C dx [])) (fun v H2 => v = .non ∧ Q (.ref x) H2) E
theorem make (h : tr σ H fun vs H1 => MkG C sp dvs E Q vs H1) : tMake C sp dvs E tr σ H Q := h
theorem popI {l : Addr} {xs : List V} (h : H l = some (.lst xs)) (e : xs[xs.length - 1]? = some y) (q : Q y (upd H l (.lst xs.dropLast))) : rPop (.ref l) [] H Q := ⟨l, xs, y, rfl, rfl, h, e, q⟩
theorem maxL {a : Addr} {ns : List Int} (h : H a = some (.lst (ns.map V.int))) (l : 0 < ns.length) (q : ∀ m, m ∈ ns → (∀ y, y ∈ ns → y ≤ m) → Q (.int m) H) : rMax K [.ref a] H Q := ⟨a, ns, rfl, SqL.of h, l, q⟩
theorem anyL {a : Addr} {bs : List Bool} (h : H a = some (.lst (bs.map V.bl))) (q : Q (.bl (bs.any id)) H) : rAny K [.ref a] H Q := ⟨a, bs, rfl, SqL.of h, q⟩
theorem sumL {a : Addr} {ns : List Int} (h : H a = some (.lst (ns.map V.int))) (q : Q (.int ns.sum) H) : rSum K [.ref a] H Q := ⟨a, ns, rfl, SqL.of h, q⟩
variable {R : It → Hp → Prop}
theorem izip (h : tr σ H fun vs H1 => ∃ a b xs ys, vs = [.ref a, .ref b] ∧ ((SqL K H1 a xs ∧ SqL K H1 b ys ∧ R (Itz K a b) H1) ∨ (SqT K H1 a xs ∧ SqT K H1 b ys ∧ R (RZ.ItzT K a b) H1))) : RZ.iZipA K tr σ H R := h
theorem izI {a b : Addr} {xs ys : List V} {A : Addr → Addr → Prop} {B : Addr → Addr → Prop} (h1 : H a = some (.lst xs)) (h2 : H b = some (.lst ys)) (q : A a b) : ∃ a' b' xs ys, [V.ref a, .ref b] = [.ref a', .ref b'] ∧ ((SqL K H a' xs ∧ SqL K H b' ys ∧ A a' b') ∨ (SqT K H a' xs ∧ SqT K H b' ys ∧ B a' b')) := ⟨a, b, xs, ys, rfl, .inl ⟨SqL.of h1, SqL.of h2, q⟩⟩
end Rd

set_option Elab.async false
set_option linter.all false
set_option maxRecDepth 100000
namespace L2
open PySem PySem.Spec PyProof.Rows
/-! set(xs) of a list of ints -/
/-- the set just made -/
abbrev eSet (w : World) : Obj := { cls := .type "set", dict := none, data := .set #[] 0 (.fresh 0 0 (!w.params.followText "set-order")) }
section
variable {P : Program} {w : World} {A : Around} {E : Value → Shared → Prop} {s : Shared}
/-- what the filling says of the heap behind it -/
def Filled (w : World) (s : Shared) (ns : List Int) (h' : Heap) (c : Nat) : Prop :=
  SetR w h' s.heap.objs.size (fun j => decide (j ∈ ns)) c ∧ c ≤ ns.length ∧ ∀ b o, s.heap.get? b = some o → h'.get? b = some o
set_option maxHeartbeats 3200000 in
theorem set_listI {l : Addr} {items : Array Value} (ns : List Int) {Q : Value → Shared → Prop} (hh : A.handled = none) (hl : s.heap.IsList l items) (hit : IntsAre items.toList ns) (hb : ns.length + 1 < scanBound)
    (h : ∀ (h' : Heap) (tk c : Nat), Filled w s ns h' c → Q (.ref s.heap.objs.size) { s with heap := h', toks := tk }) :
    wpAny (model P w) A (call (.type "set") [.ref l]) Q E s := by
  have hlS : l < s.heap.objs.size := by
    obtain ⟨ol, hol, _⟩ := hl
    exact Heap.lt_size hol
  have hisz : items.size = ns.length := by
    have q := IntsAre.length hit
    rwa [Array.length_toList] at q
  obtain ⟨c, tl, hmro⟩ := F.called_set.mro
  have hmade := F.called_set.made
  have hsub := F.called_set.sub
  have h1 := F.called_set.notType
  have h2 := F.called_set.canCreate
  have hct := F.typeCall_set_1 (.ref l)
  refine wpAny_call (codeAny_of_tree ?_)
  show wpAny _ _ (callAny (.type "set") _) _ _ _
  refine wpAny_pure ⟨Code.quiet_builtin _ (by decide +kernel), codeAny_builtin F.entry_type_call ?_⟩
  rw [Around.under_plain (weight_type_call_type "set" [.ref l] []) rfl]
  repeat (any_goals (first | assumption | wp_step))
  refine codeAny_mono (code_set_led1 (.ref l) (E := E) (Q₁ := fun obj s₁ => obj = .ref s.heap.objs.size ∧ s₁ = { s with heap := s.heap.push (eSet w) }) ⟨rfl, rfl⟩) fun r s₁ hr => ?_
  cases r with
  | error e => exact hr
  | ok fl =>
    cases fl with
    | ret obj =>
      obtain ⟨rfl, rfl⟩ := hr
      have hS : (s.heap.push (eSet w)).get? s.heap.objs.size = some (eSet w) := Heap.get?_push_size _ rfl
      have hT : Shared.TypeIs { s with heap := s.heap.push (eSet w) } (.ref s.heap.objs.size) "set" := ⟨_, hS, rfl⟩
      have hli := F.called_set.init.lookup
      have hbi := F.called_set.init.bind (.ref s.heap.objs.size)
      repeat (any_goals (first | assumption | wp_step))
      refine codeAny_mono (codeAny_call_builtin (R := wants (fun r s₂ => r = .none ∧ ∃ h' tk c, s₂ = { s with heap := h', toks := tk } ∧ Filled w s ns h' c) E) F.called_set.init.plain F.entry_set_init (check_set_init_1 hT ?_)) fun r₂ s₂ hr₂ => ?_
      · have hl1 : (s.heap.push (eSet w)).IsList l items := hl.push _
        obtain ⟨⟨ocls, odict, odata, oslots⟩, hol, hcl, nl, hdl⟩ := hl1
        simp only at hcl hdl
        subst hcl; subst hdl
        have hl1 : (s.heap.push (eSet w)).IsList l items := ⟨_, hol, rfl, nl, rfl⟩
        have hsls := F.sub_list_set
        have hslf := F.sub_list_frozenset
        have hne : (Value.type "list" == Value.type "dict") = false := by decide
        unfold Builtin.«set.__init__» noKeywords Builtin.Frozenset.updateFrom
        generalize hPI : pyIter = PI
        wp_walk
        subst hPI
        refine wpAny_pyIter_list hl1 ?_
        refine wpAny_bind (wpAny_runValue ?_)
        have hh3 : A.in1.in1.in1.handled = none := by simp [hh]
        have hneI : l ≠ (s.heap.push (eSet w)).objs.size := by
          rw [Heap.size_push]; exact Nat.ne_of_lt (Nat.lt_succ_of_lt hlS)
        have hSf : s.heap.objs.size ∉ [(s.heap.push (eSet w)).objs.size, l] := by
          rw [Heap.size_push]
          simp only [List.mem_cons, List.not_mem_nil, or_false, not_or]
          exact ⟨Nat.ne_of_lt (Nat.lt_succ_self _), Nat.ne_of_gt hlS⟩
        have hval : ∀ (i : Nat) (v : Value), items[i]? = some v → ∃ k t, ns[i]? = some k ∧ v = .int k t := fun i v hv => by
          have hi : i < ns.length := by rw [← hisz]; exact (Array.getElem?_eq_some_iff.mp hv).1
          obtain ⟨t, e⟩ := PyProof.Rows.IntsAre.int_at hit i v (by rw [Array.getElem?_toList]; exact hv)
          refine ⟨ns[i], t, List.getElem?_eq_getElem hi, ?_⟩
          rw [e, List.getD_eq_getElem?_getD, List.getElem?_eq_getElem hi] <;> rfl
        refine set_update_ints ((Walks.list hh3 _ l hneI items).toS) s.heap.objs.size hSf ns hisz hb hval (items.size - 0) 0 _ (by omega) (Nat.zero_le _)
          ⟨⟨_, Heap.get?_push_size _ rfl, rfl, rfl⟩, (hl1.push _)⟩ ⟨0, Nat.le_refl 0, setR_new_at (Heap.get?_push_of_some _ hS)⟩ ?_
        rintro ⟨h', g2, d', tk', os'⟩ c' hm hc' hS'
        have eg : g2 = s.gens := hm.gens
        have ed : d' = s.drawn := hm.drawn
        have eo : os' = s.os := hm.os
        subst eg; subst ed; subst eo
        show wpAny _ _ _ _ _ _
        refine wpAny_pure ?_
        show wpAny _ _ (ret Value.none) _ _ _
        refine wpAny_pure ⟨rfl, h', tk', c', rfl, hS', by omega, fun b o e => ?_⟩
        have hb0 : b < s.heap.objs.size := Heap.lt_size e
        refine hm.heap b o ?_ (Heap.get?_push_of_some _ (Heap.get?_push_of_some _ e))
        rw [Heap.size_push]
        simp only [List.mem_cons, List.not_mem_nil, or_false, not_or]
        exact ⟨Nat.ne_of_lt hb0, Nat.ne_of_lt (Nat.lt_succ_of_lt hb0)⟩
      · cases r₂ with
        | error e => exact hr₂
        | ok fl₂ =>
          cases fl₂ with
          | ret r =>
            obtain ⟨rfl, h', tk, c', rfl, hf⟩ := hr₂
            repeat (any_goals (first | assumption | wp_step))
            exact h _ _ _ hf
          | _ => exact hr₂.elim
    | _ => exact hr.elim
end
section
variable {X : Cx}
/-- set(xs) of a list of ints: its members, and at most as many as there are rows -/
def rSetI (K : PySem.W.Frag) (w : World) : List V → Hp → VK → Prop := fun xs H Q => ∃ (l : Addr) (ns : List Int), xs = [V.ref l] ∧ SqL K H l (ns.map V.int) ∧ ns.length + 1 < scanBound ∧
  ∀ (p : Addr) (c : Nat), c ≤ ns.length → (∃ ks : List Int, ks.Nodup ∧ (∀ k ∈ ks, k ∈ ns) ∧ ks.length = c) → H p = none → Q (.ref p) (upd H p (SetO w p (fun j => decide (j ∈ ns)) c))
theorem cr_setI (hc : X.calm = true) : CallR X (.type "set") (rSetI X.K X.w) := by
  intro pins s σ H xs us Q I r h
  obtain ⟨l, ns, rfl, hl, hb, q⟩ := h
  rw [Vals.ref1 r]
  obtain ⟨its, rv, pl, hz⟩ := I.list hl
  have hn : H s.heap.objs.size = none := I.hok.fresh (Nat.le_refl _)
  refine set_listI ns (I.ok.hd hc) pl.isList (by simpa using ints_of_vals rv) hb fun h' tk c hf => ?_
  exact ⟨.ref s.heap.objs.size, upd H s.heap.objs.size (SetO X.w s.heap.objs.size (fun j => decide (j ∈ ns)) c), I.laid (t' := tk) hf.2.2 (Nat.le_refl _) (setO_new hf.1), rfl, q _ c hf.2.1 (by
    obtain ⟨o, es, ep, t, ho, he, hd, hg, nd, mem, hs, hft, hn, _⟩ := hf.1
    exact ⟨_, nd, fun k m => of_decide_eq_true ((mem k).mpr m), by rw [List.length_map, Array.length_toList]; exact hn⟩) hn⟩
end
end L2

set_option Elab.async false
set_option linter.all false
set_option maxRecDepth 100000
namespace L2
open PySem PySem.Spec PySem.Calls PyProof.Rows
/-! an own object without a == of its own, against an integer -/
theorem int_eq_declines_ins (b : Int) (u : Tok) (a C dx : Addr) :
    Meets (Builtin.«int.__eq__» ⟨[.int b u, .ref a], []⟩) (fun _ R s => s.heap.get? a = some (PySem.W.instObj C dx) ∧ R (.ok (.ret .notImplemented)) s) :=
  .of_wp fun prog w A R s h => by
    obtain ⟨hp, g, d, tk, os⟩ := s
    obtain ⟨hl, h⟩ := h
    unfold PySem.W.instObj at hl
    wp_walk using wpAny_loadPart' hl, wpAny_load hl
    exact ⟨_, rfl, h⟩
section
variable {prog : Program} {w : World} {A : Around} {E : Value → Shared → Prop} {s : Shared} {K : PySem.W.Frag} {x C dx : Addr} {od : Option Obj}
theorem ifBound_B {name : Str} {id : String} {args : List Value} {Q : Option Value → Shared → Prop} (X : K.In s.heap) (I : PySem.W.InstAt s.heap x (PySem.W.instObj C dx) C od)
    (hs : PySem.W.findIn K (.ref C) name = some (some (.builtin id))) (hb : ∀ self, bindSpecial (.builtin id) self = pure (.builtin id, [self]))
    (h : wpAny (model prog w) A (call (.builtin id) (.ref x :: args)) (fun v => Q (some v)) E s) : wpAny (model prog w) A (callSpecialIfBound? (.ref x) name args) Q E s := by
  simp only [callSpecialIfBound?, bindSpecialIfBound?]
  refine wpAny_holding (wpAny_bind (wpAny_bind (wpAny_bind (I.type.here ((PySem.W.looks_findIn X hs).here ?_)))))
  simp only [hb]
  refine wpAny_bind (wpAny_askSetting (wpAny_ite ?_))
  have fin : wpAny (model prog w) A (call (.builtin id) ([.ref x] ++ args) >>= fun v => pure (some v)) Q E s := wpAny_bind (wpAny_mono h (fun v s' h' => wpAny_pure h') fun _ _ h' => h')
  split
  · exact wpAny_bind (wpAny_pure (by exact wpAny_pure fin))
  · exact wpAny_tryCatch (wpAny_bind (wpAny_pure (by exact wpAny_pure fin)))
theorem call_objEq_int {n : Int} {t : Tok} {Q : Value → Shared → Prop} (X : K.In s.heap) (I : PySem.W.InstAt s.heap x (PySem.W.instObj C dx) C od)
    (ho : PySem.W.mroIn K C (.type "object") = some true) (hq : Q .notImplemented s) :
    wpAny (model prog w) A (call (.builtin "object.__eq__") [.ref x, .int n t]) Q E s := by
  refine wpAny_call (codeAny_call_builtin F.cmp_object.eq.plain F.cmpEntry_eq ?_)
  simp only [checkBuiltinCall, F.cmpKind_eq, F.cmpSplit_eq]
  refine wpAny_bind ?_
  unfold isInstance
  refine wpAny_bind (I.type.here ((PySem.W.looks_subIn (t := .ref C) X ho).here ?_))
  have body : wpAny (model prog w) A.in1 (Builtin.«object.__eq__» ⟨[.ref x, .int n t], []⟩) (fun fin s' => fin = .done (.ret .notImplemented) ∧ s' = s) E s := by
    unfold Builtin.«object.__eq__»
    have q : isSame (.ref x) (.int n t) = pure false := rfl
    repeat (first | rw [q] | wp_step)
    exact ⟨rfl, rfl⟩
  have fin : wpAny (model prog w) A.in1 (Builtin.«object.__eq__» ⟨[.ref x, .int n t], []⟩) (fun fin s' => match fin with
      | .done f => (match (Except.ok f : Result) with | .ok (.ret v) => Q v s' | .ok _ => False | .error e => E e s')
      | .again c' => c'.quiet = true ∧ codeAny (model prog w) A c' (fun r s' => match r with | .ok (.ret v) => Q v s' | .ok _ => False | .error e => E e s') s') (fun e s' => E e s') s :=
    wpAny_mono body (fun f s' h => by obtain ⟨rfl, rfl⟩ := h; exact hq) (fun _ _ e => e)
  cases hsig : Manifest.signature? "object.__eq__" with
  | none => exact wpAny_pure fin
  | some sig =>
    have ha := F.cmpArgs_eq (.ref x) (.int n t)
    simp only [argsOk, hsig] at ha
    have h2 : Bind.checkArgs "object.__eq__" sig ⟨[.ref x, .int n t], []⟩ = pure () := ha
    show wpAny (model prog w) A.in1 (Bind.checkArgs "object.__eq__" sig ⟨[.ref x, .int n t], []⟩) _ _ s
    rw [h2]
    exact wpAny_pure fin
theorem richCompare_inst_int {n : Int} {t : Tok} {Q : Value → Shared → Prop} (hu : A.units < cLine) (X : K.In s.heap) (I : PySem.W.InstAt s.heap x (PySem.W.instObj C dx) C od)
    (hs : PySem.W.findIn K (.ref C) "__eq__" = some (some (.builtin "object.__eq__"))) (ho : PySem.W.mroIn K C (.type "object") = some true)
    (hn : PySem.W.subIn K (.type "int") (.ref C) = some false) (hq : Q (.bool false) s) : wpAny (model prog w) A (richCompare .Eq (.ref x) (.int n t)) Q E s := by
  unfold richCompare
  simp only [oneThing_ref]
  refine wpAny_holding (wpAny_bind (wpAny_cRoomFor hu ?_))
  refine wpAny_bind (I.type.here (wpAny_bind (wpAny_typeOf (typeIs_int s n t) ?_)))
  have e1 : (Value.ref C != Value.type "int") = true := by rfl
  simp only [e1, if_true]
  refine wpAny_bind ((PySem.W.looks_subIn X hn).here ?_)
  simp only [Bool.false_eq_true, if_false, Bool.not_false, if_true]
  refine wpAny_bind (m := tryCompare (.ref x) _ (.int n t)) ?_
  unfold tryCompare
  refine wpAny_bind (ifBound_B X I hs F.cmp_object.eq.bind (call_objEq_int X I ho ?_))
  refine wpAny_pure ?_
  refine wpAny_bind (m := tryCompare (.int n t) _ (.ref x)) (wpAny_tryCompare_declines (typeIs_int s n t) F.slot_int_eq_refl (call_meets F.slot_int_eq_refl (typeIs_int s n t) F.entry_int_eq (F.args_int_eq_2 _ _) (int_eq_declines_ins n t x C dx) ⟨I.at_, rfl, ?_⟩))
  exact wpAny_bind (wpAny_rule (wpAny_bind (wpAny_of_eq (rfl : isSame (.ref x) (.int n t) = pure false) (wpAny_pure hq))))
end
structure ClsEq (K : PySem.W.Frag) (C : Addr) : Prop where
  eq : PySem.W.findIn K (.ref C) "__eq__" = some (some (.builtin "object.__eq__"))
  ob : PySem.W.mroIn K C (.type "object") = some true
  nt : PySem.W.subIn K (.type "int") (.ref C) = some false
section
variable {X : Cx}
def rEqOI (C : Addr) : R2 := fun x y H Q => ∃ (a dx : Addr) (fs : List (Str × V)) (i : Int), x = .ref a ∧ y = .int i ∧ H a = some (.ins C dx fs) ∧ Q (.bl false) H
theorem op_eqOI {C : Addr} (q : ClsEq X.K C) (hu : X.A.units < cLine) : OpR X (compareOp .Eq) (rEqOI C) := by
  intro pins s σ H x y v u Q I rx ry h
  obtain ⟨a, dx, fs, i, rfl, rfl, ha, hq⟩ := h
  cases (show v = Value.ref a from rx)
  obtain ⟨t, rfl⟩ := ry
  obtain ⟨mA, J, _⟩ := ins_get I.hok ha
  obtain ⟨od, J, _⟩ := J.look
  exact richCompare_inst_int hu I.kIn J q.eq q.ob q.nt ⟨.bl false, H, I, rfl, hq⟩
/-! ### len(set(xs)) for any ints -/
def distinct (ns : List Int) : Nat := (firstMet (fun i => ns.getD i 0) ns.length).length
theorem distinct_nodup {ns : List Int} (h : ns.Nodup) : distinct ns = ns.length := by
  unfold distinct
  rw [firstMet_nodup ns h ns.length (Nat.le_refl _), List.take_length]
theorem distinct_two {x : Int} : distinct [x, x] = 1 := by
  simp [distinct, firstMet, step_dedup, List.range_succ]
def tLenSetD (K : PySem.W.Frag) (ta : TE) : TE := fun σ H Q => ta σ H fun x H1 => ∃ (l : Addr) (ns : List Int), x = V.ref l ∧ SqL K H1 l (ns.map V.int) ∧ ns.length < 64 ∧ Q (.int (distinct ns)) H1
theorem pe_lenSetD {a : Expr} {ta : TE} {p p2 q pos : Pos} (hc : X.calm = true) (hg : Gl X "len") (hm : X.mg "len" = none) (hg2 : Gl X "set") (hm2 : X.mg "set" = none) (ha : PE X a ta)
    (na : starEach [a] X.env = (false, eval a X.env) :: starEach [] X.env := by rfl) : PE X (.Call (.Name "len" p) [.Call (.Name "set" p2) [a] [] q] [] pos) (tLenSetD X.K ta) := by
  refine ⟨fun pins s σ H Q I h => ?_⟩
  refine Call_ (ld_blt I hg hm PySem.boot_len ?_)
  refine PyProof.Rows.callWith_builtin1 (PyProof.Rows.args_cons ?_ rfl) rfl rfl
  refine Call_ (ld_blt I hg2 hm2 PyProof.Rows.boot_set ?_)
  refine PyProof.Rows.callWith_type1 (PyProof.Rows.args_cons (thn (ha.run pins s σ H _ I h) fun v s1 ⟨x, H1, I1, r1, q1⟩ => PyProof.Rows.args_nil ?_) na) na rfl
  obtain ⟨l, ns, rfl, hq, h1, q1⟩ := q1
  cases r1
  obtain ⟨its, r, pl, hz⟩ := I1.list hq
  have hl : its.toArray.size = ns.length := by rw [List.size_toArray, ← r.length, List.length_map]
  refine call_set_list (I1.ok.hd hc) pl.isList (ns := ns) (by simpa using r.ints) (by unfold scanBound; omega) fun h' tk hS hk => ?_
  rw [hl] at hS
  refine PyProof.Rows.args_nil ?_
  obtain ⟨o, es, ep, t, ho, hex, hd, _, _, _, hf, hn⟩ := hS
  have I2 : Inv X pins σ H1 { s1 with heap := h', toks := tk } := I1.kept fun b o e => hk b o (Heap.lt_size e) e
  have dl : (firstMet (fun i => ns.getD i 0) ns.length).length < 64 := Nat.lt_of_le_of_lt (firstMet_length_le _ _) h1
  refine call_len_set ho hex hd hf (by rw [hn] <;> omega) ⟨.int (distinct ns), H1, I2.tok _, ⟨_, by rw [hn]; rfl⟩, q1⟩
end
theorem for_enum {K : PySem.W.Frag} {a : Addr} {xs : List V} {g : TG} {tb : TS} {D : Ends} {σ : St} {H : Hp} (Pv : Nat → St → Hp → Prop) (h0 : Pv 0 σ H) (hl : ∀ i σ H, i ≤ xs.length → Pv i σ H → SqL K H a xs)
    (hs : ∀ (i : Nat) x T σ H, xs[i]? = some x → Pv i σ H → H T = none → g (.ref T) σ (upd H T (.tup [.int i, x])) fun σ2 H2 => tb { D with nx := Pv (i + 1), ct := Pv (i + 1), bk := D.nx } σ2 H2) (hd : ∀ σ H, Pv xs.length σ H → D.nx σ H) :
    ∃ W : Nat → Nat → St → Hp → Prop, (∃ m, W 0 m σ H) ∧ ∀ i m σ H, W i m σ H →
      ((Ite K a).stop i H ∧ D.nx σ H) ∨ ((Ite K a).go i H ∧ ∃ N : St → Hp → Prop, (∀ σ' H', N σ' H' → ∃ m', m' < m ∧ W (i + 1) m' σ' H') ∧ ∀ x H', (Ite K a).yld i H x H' → g x σ H' fun σ2 H2 => tb { D with nx := N, ct := N, bk := D.nx } σ2 H2) := by
  refine ⟨fun i m σ H => m = xs.length - i ∧ i ≤ xs.length ∧ Pv i σ H, ⟨xs.length, by simp, Nat.zero_le _, h0⟩, ?_⟩
  rintro i m σ H ⟨rfl, hi, p⟩
  have q := hl i σ H hi p
  by_cases hlt : i < xs.length
  · refine .inr ⟨⟨xs, xs[i], q, by simp [hlt]⟩, Pv (i + 1), fun σ' H' p' => ⟨xs.length - (i + 1), by omega, rfl, hlt, p'⟩, fun x H' y => ?_⟩
    obtain ⟨T, v, rfl, n, rfl, y⟩ := y
    exact hs i v T σ H (y xs q) p n
  · have e : i = xs.length := by omega
    subst e
    exact .inl ⟨⟨xs, q, Nat.le_refl _⟩, hd σ H p⟩
end L2

set_option Elab.async false
set_option linter.all false
set_option maxRecDepth 100000
set_option maxHeartbeats 2000000
/-! list(zip(xs, ys)) of two lists -/
namespace Zl
open PySem PySem.Calls PyProof.Rows PyProof.V PySem.Spec PySem.W
/-- the addresses as hold the pairs so far -/
structure PairsG (xs ys : Array Value) (lo : Addr) (h : Heap) (as : List Addr) : Prop where
  rise : as.Pairwise (· < ·)
  above : ∀ a ∈ as, lo < a
  pairs : ∀ (j : Nat) (a : Addr), as[j]? = some a → ∃ x y, xs[j]? = some x ∧ ys[j]? = some y ∧ IsPair h a x y
theorem PairsG.there {xs ys : Array Value} {lo : Addr} {h : Heap} {as : List Addr} (g : PairsG xs ys lo h as) {a : Addr} (ha : a ∈ as) : a < h.objs.size := by
  obtain ⟨j, hj⟩ := List.mem_iff_getElem?.mp ha
  obtain ⟨_, _, _, _, e⟩ := g.pairs j a hj
  exact Heap.lt_size e
/-- the zip under way, its list at S -/
def ZSt (z TI TO i1 i2 l1 l2 S : Addr) (xs ys : Array Value) (i : Nat) (h : Heap) : Prop :=
  IsPair h TI (.ref i1) (.ref i2) ∧ h.IsListIter i1 l1 i ∧ h.IsListIter i2 l2 i ∧ h.IsList l1 xs ∧ h.IsList l2 ys ∧
    ((IsZip h z TI TO .none ∧ ∃ a b, IsPair h TO a b) ∨ ∃ T f oT, IsZipHeld h z TI TO T f ∧ h.get? T = some oT ∧ T ≠ z ∧ T ≠ i1 ∧ T ≠ i2 ∧ T ≠ S)
structure Off (z TI TO i1 i2 l1 l2 S : Addr) : Prop where
  z : z < S
  TI : TI < S
  TO : TO < S
  i1 : i1 < S
  i2 : i2 < S
  l1 : l1 < S
  l2 : l2 < S
section
variable {prog : Program} {w : World} {A : Around} {E : Value → Shared → Prop} {s : Shared} {z TI TO i1 i2 l1 l2 S : Addr} {xs ys : Array Value}
theorem ZSt.push {h h' : Heap} {i : Nat} (O : Off z TI TO i1 i2 l1 l2 S) (st : ZSt z TI TO i1 i2 l1 l2 S xs ys i h) (hk : ∀ b o, b ≠ S → h.get? b = some o → h'.get? b = some o) : ZSt z TI TO i1 i2 l1 l2 S xs ys i h' := by
  obtain ⟨hTI, h1, h2, hl1, hl2, hz⟩ := st
  refine ⟨hk _ _ (Nat.ne_of_lt O.TI) hTI, h1.at fun o e => hk _ o (Nat.ne_of_lt O.i1) e, h2.at fun o e => hk _ o (Nat.ne_of_lt O.i2) e, hl1.at fun o e => hk _ o (Nat.ne_of_lt O.l1) e, hl2.at fun o e => hk _ o (Nat.ne_of_lt O.l2) e, ?_⟩
  rcases hz with ⟨hz, a, b, hTO⟩ | ⟨T, f, oT, hz, hT, r1, r2, r3, r4⟩
  · exact .inl ⟨hk _ _ (Nat.ne_of_lt O.z) hz, a, b, hk _ _ (Nat.ne_of_lt O.TO) hTO⟩
  · exact .inr ⟨T, f, oT, hk _ _ (Nat.ne_of_lt O.z) hz, hk _ _ r4 hT, r1, r2, r3, r4⟩
theorem zl_item {i : Nat} {x y : Value} {Q : Option Value → Shared → Prop} (D : ZipApart z TI TO i1 i2 l1 l2) (st : ZSt z TI TO i1 i2 l1 l2 S xs ys i s.heap) (hS : S < s.heap.objs.size) (hx : xs[i]? = some x) (hy : ys[i]? = some y)
    (hQ : ∀ h', ZSt z TI TO i1 i2 l1 l2 S xs ys (i + 1) h' → IsPair h' s.heap.objs.size x y → h'.objs.size = s.heap.objs.size + 1 → (∀ b o, b ≠ z → b ≠ TO → b ≠ i1 → b ≠ i2 → s.heap.get? b = some o → h'.get? b = some o) → Q (some (.ref s.heap.objs.size)) { s with heap := h' }) :
    wpAny (model prog w) A (pyNext (.ref z)) Q E s := by
  obtain ⟨hTI, h1, h2, hl1, hl2, hz⟩ := st
  have lt : ∀ {c o}, s.heap.get? c = some o → s.heap.objs.size ≠ c := fun e => Nat.ne_of_gt (Heap.lt_size e)
  have n1 : s.heap.objs.size ≠ i1 := let ⟨_, e, _⟩ := h1; lt e
  have n2 : s.heap.objs.size ≠ i2 := let ⟨_, e, _⟩ := h2; lt e
  rcases hz with ⟨hz, a, b, hTO⟩ | ⟨T, f, oT, hz, hT, r1, r2, r3, r4⟩
  · refine wpAny_pyNext_zip_item D hz hTI hTO h1 h2 hl1 hl2 hx hy fun h' a1 a2 a3 a4 a5 a6 hk => ?_
    exact hQ h' ⟨hk _ _ D.TIz D.TITO D.TIi1 D.TIi2 hTI, a3, a4, hl1.at fun o e => hk _ o D.l1z D.l1TO D.l1i1 D.l1i2 e, hl2.at fun o e => hk _ o D.l2z D.l2TO D.l2i1 D.l2i2 e,
      .inr ⟨s.heap.objs.size, false, _, a1, a5, lt hz, n1, n2, Nat.ne_of_gt hS⟩⟩ a5 a6 hk
  · refine wpAny_pyNext_zip_item_held D hz hT hTI h1 h2 hl1 hl2 hx hy fun h' a1 a3 a4 a5 a6 hk => ?_
    exact hQ h' ⟨hk _ _ D.TIz D.TIi1 D.TIi2 hTI, a3, a4, hl1.at fun o e => hk _ o D.l1z D.l1i1 D.l1i2 e, hl2.at fun o e => hk _ o D.l2z D.l2i1 D.l2i2 e,
      .inr ⟨T, true, oT, a1, hk _ _ r1 r2 r3 hT, r1, r2, r3, r4⟩⟩ a5 a6 fun b o c1 _ c3 c4 e => hk b o c1 c3 c4 e
theorem zl_done {i : Nat} {Q : Option Value → Shared → Prop} (hh : A.handled = none) (D : ZipApart z TI TO i1 i2 l1 l2) (st : ZSt z TI TO i1 i2 l1 l2 S xs ys i s.heap) (hend : xs[i]? = none ∨ ys[i]? = none)
    (hQ : ∀ h', (∀ b o, b ≠ z → b ≠ TO → b ≠ i1 → b ≠ i2 → s.heap.get? b = some o → h'.get? b = some o) → Q none { s with heap := h' }) :
    wpAny (model prog w) A (pyNext (.ref z)) Q E s := by
  obtain ⟨hTI, h1, h2, hl1, hl2, hz⟩ := st
  rcases hz with ⟨hz, a, b, hTO⟩ | ⟨T, f, oT, hz, hT, r1, r2, r3, r4⟩
  · exact wpAny_pyNext_zip_end hh D hz hTI hTO h1 h2 hl1 hl2 hend fun h' hk => hQ h' hk
  · exact wpAny_pyNext_zip_end_held hh D hz hT hTI h1 h2 hl1 hl2 hend fun h' hk => hQ h' fun b o c1 _ c3 c4 e => hk b o c1 c3 c4 e
end
section
variable {prog : Program} {w : World} {A : Around} {s : Shared} {R : Result → Shared → Prop} {z TI TO i1 i2 l1 l2 S : Addr} {xs ys : Array Value}
theorem zl_loop (hh : A.handled = none) (D : ZipApart z TI TO i1 i2 l1 l2) (O : Off z TI TO i1 i2 l1 l2 S) (hxy : xs.size = ys.size) (hn : xs.size ≤ sizeLine) (res : Value) {h₁ : Heap}
    (hR : ∀ h' tk acc c as, (∀ b o, b ≠ S → b ≠ z → b ≠ TO → b ≠ i1 → b ≠ i2 → h₁.get? b = some o → h'.get? b = some o) → h'.get? S = some { cls := .type "list", dict := none, data := .seq acc c, slots := #[] } → as.length = xs.size → PairsG xs ys S h' as →
      acc.toList = as.map Value.ref → R (.ok (.ret res)) { s with heap := h', toks := tk }) :
    ∀ (k i : Nat) (h : Heap) (tk c : Nat) (acc : Array Value) (as : List Addr), xs.size - i = k → i ≤ xs.size → ZSt z TI TO i1 i2 l1 l2 S xs ys i h → (∀ b o, b ≠ S → b ≠ z → b ≠ TO → b ≠ i1 → b ≠ i2 → h₁.get? b = some o → h.get? b = some o) →
      h.get? S = some { cls := .type "list", dict := none, data := .seq acc c, slots := #[] } → acc.toList = as.map Value.ref → as.length = i → PairsG xs ys S h as →
      codeAny (model prog w) A (.builtin "list.extend.loop" ⟨[.ref S, .ref z, res], []⟩) R { s with heap := h, toks := tk } := by
  intro k
  induction k with
  | zero =>
    intro i h tk c acc as hk hi hst hkeep hS hacc hal hG
    have hin : i = xs.size := by omega
    refine codeAny_builtin PySem.F.entry_extend_loop ?_
    rw [Around.under_plainId PySem.F.plain_extend_loop _]
    show wpAny _ A.in1 (pyNext (.ref z) >>= _) _ _ _
    refine wpAny_bind (zl_done (s := { s with heap := h, toks := tk }) (A := A.in1) hh D hst (.inl (Array.getElem?_eq_none (by omega))) fun h' he => ?_)
    refine wpAny_pure (hR h' tk acc c as (fun b o h0 h1 h2 h3 h4 e => he b o h1 h2 h3 h4 (hkeep b o h0 h1 h2 h3 h4 e)) (he S _ (Nat.ne_of_gt O.z) (Nat.ne_of_gt O.TO) (Nat.ne_of_gt O.i1) (Nat.ne_of_gt O.i2) hS) (by omega) ⟨hG.rise, hG.above, fun j a hj => ?_⟩ hacc)
    obtain ⟨x, y, e1, e2, e3⟩ := hG.pairs j a hj
    have ab := hG.above a (List.mem_of_getElem? hj)
    exact ⟨x, y, e1, e2, he a _ (Nat.ne_of_gt (Nat.lt_trans O.z ab)) (Nat.ne_of_gt (Nat.lt_trans O.TO ab)) (Nat.ne_of_gt (Nat.lt_trans O.i1 ab)) (Nat.ne_of_gt (Nat.lt_trans O.i2 ab)) e3⟩
  | succ k ih =>
    intro i h tk c acc as hk hi hst hkeep hS hacc hal hG
    have hlt : i < xs.size := by omega
    have hlt2 : i < ys.size := by omega
    have hsz : acc.size = i := by rw [← Array.length_toList, hacc, List.length_map, hal]
    refine codeAny_builtin PySem.F.entry_extend_loop ?_
    rw [Around.under_plainId PySem.F.plain_extend_loop _]
    show wpAny _ A.in1 (pyNext (.ref z) >>= _) _ _ _
    have hSl : S < h.objs.size := Heap.lt_size hS
    refine wpAny_bind (zl_item (s := { s with heap := h, toks := tk }) D hst hSl (Array.getElem?_eq_getElem hlt) (Array.getElem?_eq_getElem hlt2) fun h' hst' ht hz hkp => ?_)
    dsimp only at ht hz hkp ⊢
    have hS' := hkp S _ (Nat.ne_of_gt O.z) (Nat.ne_of_gt O.TO) (Nat.ne_of_gt O.i1) (Nat.ne_of_gt O.i2) hS
    have up : ∀ b o, b ≠ S → h'.get? b = some o → (h'.update S (Obj.mapSeq (·.push (Value.ref h.objs.size)))).get? b = some o := fun b o hb e => (Heap.get?_update_other _ _ (Ne.symm hb)).trans e
    show wpAny _ A.in1 (updateSeq S (·.push (Value.ref h.objs.size)) >>= _) _ _ _
    refine wpAny_bind ?_
    refine wpAny_updateSeq hS' rfl (wpAny_pure ⟨plainId_quiet PySem.F.plain_extend_loop _, ih (i + 1) _ tk _ (acc.push (Value.ref h.objs.size)) (as ++ [h.objs.size]) (by omega) hlt (hst'.push O up)
      (fun b o h0 h1 h2 h3 h4 e => up b o h0 (hkp b o h1 h2 h3 h4 (hkeep b o h0 h1 h2 h3 h4 e))) (Heap.get?_update_self _ hS' rfl) (by rw [Array.toList_push, hacc, List.map_append]; rfl) (by rw [List.length_append, hal]; rfl) ⟨?_, ?_, ?_⟩⟩) (by rw [hsz]; omega) (by show (acc.push (Value.ref h.objs.size)).size ≤ sizeLine + 1; rw [Array.size_push, hsz]; omega)
    · refine List.pairwise_append.mpr ⟨hG.rise, List.pairwise_singleton _ _, fun a ha b hb => ?_⟩
      rw [List.mem_singleton.mp hb]
      exact hG.there ha
    · intro a ha
      rcases List.mem_append.mp ha with ha | ha
      · exact hG.above a ha
      · rw [List.mem_singleton.mp ha]; exact hSl
    · intro j b hj
      rcases Nat.lt_trichotomy j as.length with h1 | h1 | h1
      · rw [List.getElem?_append_left h1] at hj
        obtain ⟨x, y, e1, e2, e3⟩ := hG.pairs j b hj
        have ab := hG.above b (List.mem_of_getElem? hj)
        exact ⟨x, y, e1, e2, up b _ (Nat.ne_of_gt ab) (hkp b _ (Nat.ne_of_gt (Nat.lt_trans O.z ab)) (Nat.ne_of_gt (Nat.lt_trans O.TO ab)) (Nat.ne_of_gt (Nat.lt_trans O.i1 ab)) (Nat.ne_of_gt (Nat.lt_trans O.i2 ab)) e3)⟩
      · subst h1
        have hb : h.objs.size = b := by simpa using hj
        subst hb
        subst hal
        exact ⟨_, _, Array.getElem?_eq_getElem hlt, Array.getElem?_eq_getElem hlt2, up _ _ (Nat.ne_of_gt hSl) ht⟩
      · have hnone : (as ++ [h.objs.size])[j]? = none := List.getElem?_eq_none (by rw [List.length_append, List.length_singleton]; omega)
        rw [hnone] at hj; cases hj
end
theorem zip_no_len : typeLookup (.type "zip") "__len__" = pure none := by rw [typeLookup_type, builtinLookup_eq_fast]; kernel_rfl
theorem zip_no_hint : typeLookup (.type "zip") "__length_hint__" = pure none := by rw [typeLookup_type, builtinLookup_eq_fast]; kernel_rfl
section
variable {prog : Program} {w : World} {A : Around} {E : Value → Shared → Prop} {s : Shared} {z TI TO i1 i2 l1 l2 : Addr} {xs ys : Array Value}
theorem zl_extend {R : Result → Shared → Prop} (hh : A.handled = none) (S : Addr) (D : ZipApart z TI TO i1 i2 l1 l2) (O : Off z TI TO i1 i2 l1 l2 S) (hxy : xs.size = ys.size) (hn : xs.size ≤ sizeLine) (hst : ZSt z TI TO i1 i2 l1 l2 S xs ys 0 s.heap) (hzz : IsZip s.heap z TI TO .none) (res : Value) (c₀ : Nat) (hS : s.heap.get? S = some { cls := .type "list", data := .seq #[] c₀ })
    (hR : ∀ h' tk acc c as, (∀ b o, b ≠ S → b ≠ z → b ≠ TO → b ≠ i1 → b ≠ i2 → s.heap.get? b = some o → h'.get? b = some o) → h'.get? S = some { cls := .type "list", dict := none, data := .seq acc c, slots := #[] } → as.length = xs.size → PairsG xs ys S h' as →
      acc.toList = as.map Value.ref → R (.ok (.ret res)) { s with heap := h', toks := tk }) :
    wpAny (model prog w) A.in1 (Builtin.List.listExtendWith (.ref S) (.ref z) res)
      (fun fin s' => match fin with | .done f => R (.ok f) s' | .again c' => c'.quiet = true ∧ codeAny (model prog w) A c' R s') (fun e s' => R (.error e) s') s := by
  have hT : s.TypeIs (.ref z) "zip" := ⟨_, hzz, rfl⟩
  have hSz : S ≠ z := Nat.ne_of_gt O.z
  unfold Builtin.List.listExtendWith
  refine wpAny_bind (wpAny_typeOf hT ?_)
  have h1 : Builtin.List.listSameRef (.ref S) (.ref z) = false := by simp [Builtin.List.listSameRef, hSz]
  have h2 : (Value.type "zip" == Value.type "list") = false := by decide
  have h3 : (Value.type "zip" == Value.type "tuple") = false := by decide
  simp only [h1, h2, h3, Bool.or_false, Bool.false_eq_true, if_false]
  refine wpAny_bind (wpAny_pyIter_zip hzz ?_)
  refine wpAny_bind (wpAny_holding ?_)
  unfold Builtin.List.listLengthHint
  refine wpAny_bind (wpAny_specialOf hT zip_no_len ?_)
  show wpAny _ A.in1 (specialOf (Value.ref z) (Str.ofString "__length_hint__") >>= _) _ _ _
  refine wpAny_bind (wpAny_specialOf hT zip_no_hint ?_)
  refine wpAny_pure ?_
  show wpAny _ A.in1 (rule "list.extend.makes-room" >>= fun _ => Builtin.List.listTouch (.ref S) >>= fun _ =>
    again (.builtin "list.extend.loop" ⟨[.ref S, .ref z, res], []⟩)) _ _ _
  refine wpAny_bind (wpAny_rule ?_)
  refine wpAny_bind ?_
  show wpAny _ A.in1 (updateSeq S (·.push .none) >>= fun _ => updateSeq S (·.pop)) _ _ _
  refine wpAny_bind (wpAny_updateSeq hS rfl ?_)
  have hS₂ := Heap.get?_update_self (Obj.mapSeq (·.push Value.none)) hS rfl
  refine wpAny_updateSeq (hz := by seq_fits) hS₂ rfl ?_
  have hS₃ := Heap.get?_update_self (Obj.mapSeq (·.pop)) hS₂ rfl
  have oth : ∀ b o, b ≠ S → s.heap.get? b = some o → ((s.heap.update S (Obj.mapSeq (·.push Value.none))).update S (Obj.mapSeq (·.pop))).get? b = some o :=
    fun b o hb e => (Heap.get?_update_other _ _ (Ne.symm hb)).trans ((Heap.get?_update_other _ _ (Ne.symm hb)).trans e)
  refine wpAny_pure ⟨plainId_quiet F.plain_extend_loop _, zl_loop (s := s) (h₁ := s.heap) hh D O hxy hn res hR (xs.size - 0) 0 _ _ _ _ [] rfl (Nat.zero_le _) (hst.push O oth) (fun b o h0 _ _ _ _ e => oth b o h0 e) hS₃ rfl rfl ⟨.nil, by simp, fun j a h => by simp at h⟩⟩
theorem zl_call {Q : Value → Shared → Prop} (hh : A.handled = none) (D : ZipApart z TI TO i1 i2 l1 l2) (hlt : z < s.heap.objs.size ∧ TI < s.heap.objs.size ∧ TO < s.heap.objs.size ∧ i1 < s.heap.objs.size ∧ i2 < s.heap.objs.size ∧ l1 < s.heap.objs.size ∧ l2 < s.heap.objs.size) (hxy : xs.size = ys.size) (hn : xs.size ≤ sizeLine)
    (hTI : IsPair s.heap TI (.ref i1) (.ref i2)) (h1 : s.heap.IsListIter i1 l1 0) (h2 : s.heap.IsListIter i2 l2 0) (hl1 : s.heap.IsList l1 xs) (hl2 : s.heap.IsList l2 ys) (hz : IsZip s.heap z TI TO .none) (hTO : ∃ a b, IsPair s.heap TO a b)
    (hQ : ∀ h' tk acc c as, (∀ b o, b ≠ z → b ≠ TO → b ≠ i1 → b ≠ i2 → s.heap.get? b = some o → h'.get? b = some o) → h'.get? s.heap.objs.size = some { cls := .type "list", dict := none, data := .seq acc c, slots := #[] } → as.length = xs.size → PairsG xs ys s.heap.objs.size h' as →
      acc.toList = as.map Value.ref → Q (.ref s.heap.objs.size) { s with heap := h', toks := tk }) :
    wpAny (model prog w) A (call (.type "list") [.ref z]) Q E s := by
  refine callType_codes (Q₁ := fun obj s₁ => obj = .ref s.heap.objs.size ∧ s₁ = { s with heap := s.heap.push { cls := .type "list", data := .seq #[] } }) PySem.F.called_list (PySem.F.typeCall_list_1 _) PySem.F.entry_list_init
    (code_list_new _ ⟨rfl, rfl⟩) fun obj s₁ h₁ => ?_
  obtain ⟨rfl, rfl⟩ := h₁
  have hS : (s.heap.push { cls := .type "list", data := .seq #[] }).get? s.heap.objs.size = some { cls := .type "list", data := .seq #[] } := Heap.get?_push_size _ rfl
  obtain ⟨g1, g2, g3, g4, g5, g6, g7⟩ := hlt
  have O : Off z TI TO i1 i2 l1 l2 s.heap.objs.size := ⟨g1, g2, g3, g4, g5, g6, g7⟩
  have up : ∀ b o, s.heap.get? b = some o → (s.heap.push { cls := .type "list", data := .seq #[] }).get? b = some o := fun b o e => Heap.get?_push_of_some _ e
  have hst : ZSt z TI TO i1 i2 l1 l2 s.heap.objs.size xs ys 0 s.heap := ⟨hTI, h1, h2, hl1, hl2, .inl ⟨hz, hTO⟩⟩
  refine ⟨⟨_, hS, rfl⟩, PySem.F.args_list_init_2 _ _, ?_⟩
  show wpAny _ _ (do let old ← Builtin.List.listItems (.ref s.heap.objs.size); Builtin.List.listUpdate (.ref s.heap.objs.size) (fun _ => #[]); letGo old.toList.reverse; Builtin.List.listExtendWith (.ref s.heap.objs.size) (.ref z) .none) _ _ _
  refine wpAny_bind ?_
  unfold Builtin.List.listItems
  refine wpAny_bind (wpAny_seqItems hS rfl (wpAny_pure ?_))
  show wpAny _ _ (updateSeq s.heap.objs.size (fun _ => #[]) >>= fun _ => letGo (#[] : Array Value).toList.reverse >>= fun _ => Builtin.List.listExtendWith (.ref s.heap.objs.size) (.ref z) .none) _ _ _
  refine wpAny_bind (wpAny_updateSeq hS rfl ?_)
  have hS₂ := Heap.get?_update_self (Obj.mapSeq (fun _ => (#[] : Array Value))) hS rfl
  have oth : ∀ b o, b ≠ s.heap.objs.size → s.heap.get? b = some o → ((s.heap.push { cls := .type "list", data := .seq #[] }).update s.heap.objs.size (Obj.mapSeq (fun _ => (#[] : Array Value)))).get? b = some o :=
    fun b o hb e => (Heap.get?_update_other _ _ (Ne.symm hb)).trans (up b o e)
  refine wpAny_bind (wpAny_letGo ?_)
  refine zl_extend (A := A.in1) hh _ D O hxy hn (hst.push O oth) (oth _ _ (Nat.ne_of_lt g1) hz) .none _ hS₂ fun h' tk acc c as hk hS' hl hG hacc => ?_
  exact ⟨rfl, hQ h' tk acc c as (fun b o b1 b2 b3 b4 e => hk b o (Nat.ne_of_lt (Heap.lt_size e)) b1 b2 b3 b4 (oth b o (Nat.ne_of_lt (Heap.lt_size e)) e)) hS' hl hG hacc⟩
end
end Zl
namespace L2
open PySem PySem.Spec PyProof.Rows
def putP : Hp → List Addr → List V → List V → Hp
  | H, a :: as, x :: xs, y :: ys => putP (upd H a (.tup [x, y])) as xs ys
  | H, _, _, _ => H
theorem putP_off {b : Addr} : ∀ (as : List Addr) (xs ys : List V) (H : Hp), b ∉ as → putP H as xs ys b = H b
  | [], _, _, _, _ => rfl
  | _ :: _, [], _, _, _ => rfl
  | _ :: _, _ :: _, [], _, _ => rfl
  | a :: as, x :: xs, y :: ys, H, h => by
    show putP (upd H a (.tup [x, y])) as xs ys b = H b
    rw [putP_off as xs ys _ (fun z => h (List.mem_cons_of_mem _ z)), upd_ne (fun z => h (by rw [z]; exact List.mem_cons_self))]
theorem putP_at : ∀ (as : List Addr) (xs ys : List V) (H : Hp), as.length = xs.length → xs.length = ys.length → as.Nodup → ∀ (j : Nat) t, as[j]? = some t → ∃ x y, xs[j]? = some x ∧ ys[j]? = some y ∧ putP H as xs ys t = some (.tup [x, y])
  | [], _, _, _, _, _, _, _, _, h => by simp at h
  | _ :: _, [], _, _, h, _, _, _, _, _ => by simp at h
  | _ :: _, _ :: _, [], _, _, h, _, _, _, _ => by simp at h
  | a :: as, x :: xs, y :: ys, H, h1, h2, hn, j, t, ht => by
    have hn' := List.nodup_cons.mp hn
    cases j with
    | zero =>
      simp at ht; subst ht
      refine ⟨x, y, rfl, rfl, ?_⟩
      show putP (upd H a (.tup [x, y])) as xs ys a = _
      rw [putP_off as xs ys _ hn'.1, upd_same]
    | succ j =>
      obtain ⟨x', y', e1, e2, e3⟩ := putP_at as xs ys (upd H a (.tup [x, y])) (Nat.succ.inj h1) (Nat.succ.inj h2) hn'.2 j t (by simpa using ht)
      exact ⟨x', y', by simpa using e1, by simpa using e2, e3⟩
def tListZip (K : PySem.W.Frag) (ta : TA) : TE := fun σ H Q => ta σ H fun vs H1 => ∃ a b xs ys, vs = [V.ref a, .ref b] ∧ SqL K H1 a xs ∧ SqL K H1 b ys ∧ xs.length = ys.length ∧
  ∀ (p : Addr) (ts : List Addr) (H2 : Hp), Same H1 H2 → H1 p = none → H2 p = some (.lst (ts.map V.ref)) → ts.length = xs.length → (∀ (j : Nat) t, ts[j]? = some t → ∃ x y, xs[j]? = some x ∧ ys[j]? = some y ∧ H2 t = some (.tup [x, y])) → Q (.ref p) H2
section
variable {X : Cx}
theorem zip_laid {pins : List (Addr × Obj)} {σ : L2.St} {H : Hp} {s : Shared} {h' : Heap} {tk S : Nat} {xs ys : List V} {us ws : List Value} {acc : Array Value} {c : Nat} {as : List Addr} (I : Inv X pins σ H s) (hz : xs.length ≤ sizeLine) (hxy : xs.length = ys.length) (rx : Vals xs us) (ry : Vals ys ws) (hSS : s.heap.objs.size ≤ S)
    (hk : ∀ b o, s.heap.get? b = some o → h'.get? b = some o) (hS : h'.get? S = some { cls := .type "list", dict := none, data := .seq acc c, slots := #[] }) (hl : as.length = xs.length) (hG : Zl.PairsG us.toArray ws.toArray S h' as) (hacc : acc.toList = as.map Value.ref) :
    ∃ H' : Hp, Same H H' ∧ H S = none ∧ H' S = some (.lst (as.map V.ref)) ∧ (∀ (j : Nat) t, as[j]? = some t → ∃ x y, xs[j]? = some x ∧ ys[j]? = some y ∧ H' t = some (.tup [x, y])) ∧ Inv X pins σ H' { s with heap := h', toks := tk } := by
  have hSn : S ∉ as := fun z => Nat.lt_irrefl _ (hG.above _ z)
  have nd : as.Nodup := List.Pairwise.imp (fun {a b} (h : a < b) => Nat.ne_of_lt h) hG.rise
  have new : ∀ t ∈ as, H t = none := fun t ht => I.hok.fresh (Nat.le_trans hSS (Nat.le_of_lt (hG.above t ht)))
  have newS : H S = none := I.hok.fresh hSS
  have atP := putP_at as xs ys (upd H S (.lst (as.map V.ref))) hl hxy nd
  have off : ∀ b, b ∉ as → b ≠ S → putP (upd H S (.lst (as.map V.ref))) as xs ys b = H b := fun b h1 h2 => by rw [putP_off as xs ys _ h1, upd_ne h2]
  have low : ∀ b o, s.heap.get? b = some o → b ∉ as ∧ b ≠ S := fun b o e => ⟨fun z => absurd (Heap.lt_size e) (Nat.not_lt.mpr (Nat.le_trans hSS (Nat.le_of_lt (hG.above b z)))), Nat.ne_of_lt (Nat.lt_of_lt_of_le (Heap.lt_size e) hSS)⟩
  have kp : ∀ b u, H b = some u → (putP (upd H S (.lst (as.map V.ref))) as xs ys) b = some u := fun b u e => by
    rw [off b (fun z => by rw [new b z] at e; cases e) (fun z => by rw [z, newS] at e; cases e)]
    exact e
  have eS : putP (upd H S (.lst (as.map V.ref))) as xs ys S = some (.lst (as.map V.ref)) := by rw [putP_off as xs ys _ hSn, upd_same]
  refine ⟨putP (upd H S (.lst (as.map V.ref))) as xs ys, kp, newS, eS, atP, ?_⟩
  refine I.call' (ch := []) rfl ⟨fun b o q _ _ _ => hk b o q, fun b o q _ _ _ => ⟨o.slots, hk b o q⟩, fun b o q n _ => ?_, fun b o q _ => ⟨o, hk b o q⟩, fun b xs q => kp b _ q, fun b o u q => kp b _ q, fun b ps q => ⟨#[], by rw [kp b _ q]; simp⟩⟩ (fun b u q => ?_) I.bare fun b z => by simp at z
  · obtain ⟨z1, z2⟩ := low b o q
    rw [off b z1 z2]
    exact n
  · by_cases hb : b ∈ as
    · obtain ⟨j, e1⟩ := List.mem_iff_getElem?.mp hb
      obtain ⟨x, y, e2, e3, e4⟩ := atP j b e1
      rw [e4] at q
      cases q
      obtain ⟨u1, u2, f1, f2, f3⟩ := hG.pairs j b e1
      obtain ⟨v1, g1, g2⟩ := rx.get e2
      obtain ⟨v2, g3, g4⟩ := ry.get e3
      have f1 : us[j]? = some u1 := by simpa using f1
      have f2 : ws[j]? = some u2 := by simpa using f2
      rw [g1] at f1; cases f1
      rw [g3] at f2; cases f2
      exact ⟨by show 2 ≤ sizeLine; decide, [u1, u2], .cons g2 (.cons g4 .nil), ⟨_, f3, rfl, _, rfl⟩⟩
    · by_cases hb2 : b = S
      · rw [hb2] at q ⊢
        rw [eS] at q
        cases q
        refine ⟨by rw [List.length_map]; omega, acc.toList, c, by rw [hacc]; exact LiI.vals_refs as, ?_⟩
        rw [Array.toArray_toList]
        exact hS
      · rw [off b hb hb2] at q
        exact (I.hok b u q).stay (fun d v _ y => hk d v y) (fun d y => kp d _ y) fun d xs y => kp d _ y
theorem pe_listZip {e e2 : Expr} {ta : TA} {p p2 q pos : Pos} (hc : X.calm = true) (hg : Gl X "list") (hm : X.mg "list" = none) (hv : bootBuiltins "list" = some (.type "list")) (hg2 : Gl X "zip") (hm2 : X.mg "zip" = none) (ha : PA X [e, e2] ta)
    (hs : starEach [e, e2] X.env = (false, eval e X.env) :: starEach [e2] X.env := by rfl) (hpl : (backTo q (starEach [e2] X.env)).any (·.1) = false := by rfl) :
    PE X (.Call (.Name "list" p) [.Call (.Name "zip" p2) [e, e2] [] q] [] pos) (tListZip X.K ta) := by
  refine ⟨fun pins s σ H Q I h => ?_⟩
  refine Call_ (ld_blt I hg hm hv ?_)
  refine PyProof.Rows.callWith_type1 (PyProof.Rows.args_cons ?_ rfl) rfl rfl
  refine Call_ (ld_blt I hg2 hm2 PyProof.Rows.boot_zip (PyProof.Rows.callWith_type1 (thn (ha.run q pins s σ H _ I h) fun us s1 ⟨vs, H1, I1, r1, q1⟩ => ?_) hs hpl))
  obtain ⟨a, b, xs, ys, ex, hqx, hqy, hxy, q1⟩ := q1
  subst ex
  cases r1 with
  | cons r rr =>
    cases rr with
    | cons r' rr =>
      cases rr
      cases r
      cases r'
      obtain ⟨its, rv, p1, hz1⟩ := I1.list hqx
      obtain ⟨its2, rv2, pp2, hz2⟩ := I1.list hqy
      have ln1 : xs.length = its.length := rv.length
      have ln2 : ys.length = its2.length := rv2.length
      refine call_zip_2 p1.isList pp2.isList fun h' hz hTI hTO h1 h2 hsz hk => PyProof.Rows.args_nil ?_
      have D := PySem.W.ktu_apart s1.heap.objs.size a b p1.lt pp2.lt
      have la := p1.lt
      have lb := pp2.lt
      refine Zl.zl_call (s := { s1 with heap := h' }) (I1.ok.hd hc) D ?_ (by simp; omega) (by simp; omega) hTI h1 h2 (p1.isList.at fun o e => hk _ o e) (pp2.isList.at fun o e => hk _ o e) hz ⟨_, _, hTO⟩ fun h2' tk acc c as hk2 hS hl hG hacc => ?_
      · have up : ∀ k : Nat, k < s1.heap.objs.size + 5 → k < h'.objs.size := fun k hk => by rw [hsz]; exact hk
        exact ⟨up _ (Nat.add_lt_add_left (by decide) _), up _ (Nat.add_lt_add_left (by decide) _), up _ (Nat.add_lt_add_left (by decide) _), up _ (Nat.lt_add_of_pos_right (by decide)), up _ (Nat.add_lt_add_left (by decide) _), up _ (Nat.lt_add_right _ la), up _ (Nat.lt_add_right _ lb)⟩
      · have hS5 : s1.heap.objs.size ≤ h'.objs.size := by omega
        obtain ⟨H', k1, k2, k3, k4, J⟩ := zip_laid (tk := tk) (S := h'.objs.size) I1 hz1 hxy rv rv2 hS5 (fun b o e => hk2 b o (Nat.ne_of_lt (Nat.lt_add_right _ (Heap.lt_size e))) (Nat.ne_of_lt (Nat.lt_add_right _ (Heap.lt_size e))) (Nat.ne_of_lt (Heap.lt_size e)) (Nat.ne_of_lt (Nat.lt_add_right _ (Heap.lt_size e))) (hk b o e)) hS (by rw [hl]; simp; omega) hG hacc
        exact ⟨.ref _, H', J, rfl, q1 _ as H' k1 k2 k3 (by rw [hl]; simp; omega) k4⟩
end
end L2

set_option Elab.async false
set_option linter.all false
set_option maxRecDepth 100000
namespace L2
open PySem PySem.Spec PyProof.Rows
/-! list + list of lists that are read -/
def rCatQ (K : PySem.W.Frag) : R2 := fun x y H Q => ∃ l b xs zs, x = .ref l ∧ y = .ref b ∧ SqL K H l xs ∧ SqL K H b zs ∧ xs.length + zs.length ≤ sizeLine ∧ ∀ p, H p = none → Q (.ref p) (upd H p (.lst (xs ++ zs)))
theorem op_catQ {X : Cx} : OpR X (binaryOp .Add) (rCatQ X.K) := by
  intro pins s σ H x y v u Q I rx ry h
  obtain ⟨l, b, xs, zs, rfl, rfl, hH, hB, hz, q⟩ := h
  cases rx
  cases ry
  obtain ⟨its, r, pl, z⟩ := I.list hH
  obtain ⟨its2, r2, pl2, z2⟩ := I.list hB
  have hl := r.length
  have hl2 := r2.length
  obtain ⟨⟨cls, dd, data, sl⟩, ho, hc, n, hd⟩ := pl.isList
  obtain ⟨⟨cls2, dd2, data2, sl2⟩, ho2, hc2, n2, hd2⟩ := pl2.isList
  simp only at hc hd hc2 hd2
  subst hc hd hc2 hd2
  refine concat_meets ⟨_, ho, rfl⟩ ⟨_, ho2, rfl⟩ noFill_list_add seq_list_add PySem.F.slot_list_add PySem.F.entry_list_add (PySem.F.args_list_add_2 _ _) (list_addW l b its.toArray its2.toArray n n2 dd dd2 sl sl2 (by simp; omega)) ⟨ho, ho2, ?_⟩
  have ea : its.toArray ++ its2.toArray = (its ++ its2).toArray := by simp
  rw [ea]
  exact ⟨.ref _, _, I.lnew (t' := s.toks) (r.append r2) (by rw [List.length_append]; omega), rfl, q _ I.fresh⟩
end L2
namespace Rd
open PySem PySem.Spec PyProof.Rows L2
variable {K : PySem.W.Frag} {σ : L2.St} {H : Hp} {D : Ends} {Q : VK} {ta tb te tv : TE} {x y v : V} {tr : TA}
def CatQ (K : PySem.W.Frag) (Q : VK) (x y : V) (H : Hp) : Prop := rCatQ K x y H Q
theorem catQI (h : CatQ K Q x y H) : rCatQ K x y H Q := h
theorem catQ {a b : Addr} {xs zs : List V} (h1 : SqL K H a xs) (h2 : SqL K H b zs) (s : xs.length + zs.length ≤ 100000) (h : ∀ p H', H p = none → Same H H' → H' p = some (.lst (xs ++ zs)) → Q (.ref p) H') : CatQ K Q (.ref a) (.ref b) H := ⟨a, b, xs, zs, rfl, rfl, h1, h2, sz s, fun p np => h p _ np (same_new np) upd_same⟩
def RevL (K : PySem.W.Frag) (Q : VK) (x : V) (H : Hp) : Prop := ∃ a xs, x = .ref a ∧ SqL K H a xs ∧ ∀ p, H p = none → Q (.ref p) (upd H p (.lst xs.reverse))
theorem revN (h : te σ H (RevL K Q)) : tRevL K te σ H Q := h
theorem revq {a : Addr} {xs : List V} (s : SqL K H a xs) (h : ∀ p H', H p = none → Same H H' → H' p = some (.lst xs.reverse) → Q (.ref p) H') : RevL K Q (.ref a) H := ⟨a, xs, rfl, s, fun p np => h p _ np (same_new np) upd_same⟩
theorem ext {l b : Addr} {xs zs : List V} (h : H l = some (.lst xs)) (hb : H b = some (.lst zs)) (s : xs.length + zs.length ≤ 100000) (q : Q .non (upd H l (.lst (xs ++ zs)))) : rExtend (.ref l) [.ref b] H Q := ⟨l, b, xs, zs, rfl, rfl, h, hb, sz s, q⟩
def LzG (K : PySem.W.Frag) (Q : VK) (vs : List V) (H1 : Hp) : Prop := ∃ a b xs ys, vs = [V.ref a, .ref b] ∧ SqL K H1 a xs ∧ SqL K H1 b ys ∧ xs.length = ys.length ∧
  ∀ (p : Addr) (ts : List Addr) (H2 : Hp), Same H1 H2 → H1 p = none → H2 p = some (.lst (ts.map V.ref)) → ts.length = xs.length → (∀ (j : Nat) t, ts[j]? = some t → ∃ x y, xs[j]? = some x ∧ ys[j]? = some y ∧ H2 t = some (.tup [x, y])) → Q (.ref p) H2
theorem lzip (h : tr σ H (LzG K Q)) : tListZip K tr σ H Q := h
theorem lz {a b : Addr} {xs ys : List V} (h1 : SqL K H a xs) (h2 : SqL K H b ys) (l : xs.length = ys.length) (q : ∀ (p : Addr) (ts : List Addr) (H2 : Hp), Same H H2 → H p = none → H2 p = some (.lst (ts.map V.ref)) → ts.length = xs.length → (∀ (j : Nat) t, ts[j]? = some t → ∃ x y, xs[j]? = some x ∧ ys[j]? = some y ∧ H2 t = some (.tup [x, y])) → Q (.ref p) H2) : LzG K Q [.ref a, .ref b] H := ⟨a, b, xs, ys, rfl, h1, h2, l, q⟩
end Rd
namespace L2
open PySem PySem.Spec PyProof.Rows
/-- (n1, n2) > (m1, m2) -/
def rGtP (K : PySem.W.Frag) : R2 := fun x y H Q => ∃ (a b : Addr) (n1 n2 m1 m2 : Int), x = .ref a ∧ y = .ref b ∧ SqT K H a [.int n1, .int n2] ∧ SqT K H b [.int m1, .int m2] ∧ Q (.bl (decide (m1 < n1 ∨ (n1 = m1 ∧ m2 < n2)))) H
theorem op_gtP {X : Cx} (hu : X.A.units < cLine) : OpR X (compareOp .Gt) (rGtP X.K) := by
  intro pins s σ H x y v u Q I rx ry h
  obtain ⟨a, b, n1, n2, m1, m2, rfl, rfl, ha, hb, q⟩ := h
  cases rx
  cases ry
  obtain ⟨its, r1, p1, _⟩ := I.tuple ha
  obtain ⟨its2, r2, p2, _⟩ := I.tuple hb
  have i1 : IntsAre its [n1, n2] := Vals.ints (ns := [n1, n2]) r1
  have i2 : IntsAre its2 [m1, m2] := Vals.ints (ns := [m1, m2]) r2
  have e1 : its.toArray.size = 2 := by rw [List.size_toArray]; exact i1.length
  have e2 : its2.toArray.size = 2 := by rw [List.size_toArray]; exact i2.length
  have at1 : ∀ j (h1 : j < its.toArray.size), ∃ t, its.toArray[j] = .int ([n1, n2].getD j 0) t := fun j h1 => PyProof.Rows.IntsAre.int_at i1 _ _ (by simp at h1; simp [h1])
  have at2 : ∀ j (h1 : j < its2.toArray.size), ∃ t, its2.toArray[j] = .int ([m1, m2].getD j 0) t := fun j h1 => PyProof.Rows.IntsAre.int_at i2 _ _ (by simp at h1; simp [h1])
  have R := Ob.RcOp.tuples_gt (A := X.A) (s := s) (e := fun j => decide ([n1, n2].getD j 0 = [m1, m2].getD j 0)) (r := fun j => decide ([m1, m2].getD j 0 < [n1, n2].getD j 0)) p1 p2 hu (fun j h1 h2 => by
    obtain ⟨t, et⟩ := at1 j h1
    obtain ⟨t', et'⟩ := at2 j h2
    rw [et, et']
    have z : ([n1, n2].getD j 0 == [m1, m2].getD j 0) = decide ([n1, n2].getD j 0 = [m1, m2].getD j 0) := by
      by_cases q : [n1, n2].getD j 0 = [m1, m2].getD j 0
      · rw [decide_eq_true q]; exact beq_iff_eq.mpr q
      · rw [decide_eq_false q]; exact beq_eq_false_iff_ne.mpr q
    rw [← z]
    exact SeqAt.EqAt.int_int _ _ _ _) (fun j h1 h2 _ => by
    obtain ⟨t, et⟩ := at1 j h1
    obtain ⟨t', et'⟩ := at2 j h2
    rw [et, et']
    exact Ob.RcOp.gt_int _ _ _ _)
  rw [e1, e2] at R
  have ev : Ob.lexAt (fun j => decide ([n1, n2].getD j 0 = [m1, m2].getD j 0)) (fun j => decide ([m1, m2].getD j 0 < [n1, n2].getD j 0)) (decide (2 > 2)) 0 (min 2 2) = decide (m1 < n1 ∨ (n1 = m1 ∧ m2 < n2)) := by
    show Ob.lexAt _ _ _ 0 2 = _
    rw [Ob.lexAt_succ, Ob.lexAt_succ, Ob.lexAt_zero]
    show (if decide (n1 = m1) = true then (if decide (n2 = m2) = true then decide (2 > 2) else decide (m2 < n2)) else decide (m1 < n1)) = _
    by_cases h1 : n1 = m1
    · rw [if_pos (decide_eq_true h1)]
      by_cases h2 : n2 = m2
      · rw [if_pos (decide_eq_true h2)]
        exact (decide_eq_false (by omega)).trans (decide_eq_false (by omega)).symm
      · rw [if_neg (by simp [h2])]
        exact decide_eq_decide.mpr (by omega)
    · rw [if_neg (by simp [h1])]
      exact decide_eq_decide.mpr (by omega)
  exact R _ _ _ _ ⟨.bl _, H, I, rfl, by rw [ev]; exact q⟩
end L2
namespace Rd
open PySem PySem.Spec PyProof.Rows L2
theorem gtP {K : PySem.W.Frag} {H : Hp} {Q : VK} {a b : Addr} {n1 n2 m1 m2 : Int} (h1 : H a = some (.tup [.int n1, .int n2])) (h2 : H b = some (.tup [.int m1, .int m2])) (q : Q (.bl (decide (m1 < n1 ∨ (n1 = m1 ∧ m2 < n2)))) H) : rGtP K (.ref a) (.ref b) H Q := ⟨a, b, n1, n2, m1, m2, rfl, rfl, SqT.of h1, SqT.of h2, q⟩
theorem glst {K : PySem.W.Frag} {H : Hp} {σ : L2.St} {p : Addr} {xs : List V} {n : Nat} {f : TGs} {Q : L2.St → Hp → Prop} (h : H p = some (.lst xs)) (l : xs.length = n) (q : f xs σ H Q) : gLst K n f (.ref p) σ H Q := ⟨p, xs, rfl, SqL.of h, l, q⟩
end Rd
namespace Rd
open PySem PySem.Spec PyProof.Rows L2
theorem revR1 {te : TE} {σ : L2.St} {H : Hp} {R : It → Hp → Prop} (h : te σ H fun x H1 => ∃ n, x = .int n ∧ (-(2 ^ 62) ≤ (0 : Int) ∧ (0 : Int) < 2 ^ 62 ∧ -(2 ^ 62) ≤ n ∧ n < 2 ^ 62 ∧ R (Itc ((0 : Int) + (((n - 0).toNat : Nat) : Int) - 1) (-1) (n - 0).toNat) H1)) : iRevR (tRg1 te) σ H R := h
end Rd

set_option Elab.async false
set_option linter.all false
set_option maxRecDepth 100000
set_option maxHeartbeats 2000000
/-! a law whose own body shows data by repr: its promise knows that nothing is being shown around it -/
namespace L2
open PySem PySem.Spec PyProof.Rows
/-- as FnOk, where no object is under way in a repr -/
structure FnG (P : Program) (w : World) (K : PySem.W.Frag) (mg : Str → Option Value) (base : Heap) (k : Nat) (f : Addr) (fd : FuncData) (ps : List Str) (sp : Sp) : Prop where
  len : ∀ vs H Q E, sp vs H Q E → vs.length = ps.length
  run : ∀ (A : Around), A.guards = some [] → Room k A → ∀ (outer : List Env) (s : Shared) (H : Hp), Env0 P w K mg base A outer s H →
    ∀ (args : Args) (us : List Value) (vs : List V) (Q : VK) (E : XK), BindsTo s fd args (ps.zip us) → Vals vs us → sp vs H Q E → codeAny (model P w) A (.call (.ref f) args) (CR CX0 outer P w H s Q E) s
section
variable {P : Program} {w : World} {K : PySem.W.Frag} {mg : Str → Option Value} {base : Heap}
theorem Fun.okG {x qual : Str} {st : Stmt} {f : Addr} {fd : FuncData} {N ps : List Str} {k : Nat} {sp : Sp} (F : Fun K x qual st f fd) (S : FnScope N ps (defScope st)) (len : ∀ vs H Q E, sp vs H Q E → vs.length = ps.length)
    (body : ∀ (cdv : Value) (A : Around) (outer : List Env) (s : Shared) (H : Hp) (vs : List V) (Q : VK) (E : XK), A.guards = some [] → Room k (A.deeper (envOfC qual (defScope st) s.heap.objs.size f cdv)) → sp vs H Q E →
      ∃ t, PSs (cxOf CX0 P w K mg base N qual (defScope st) f cdv A outer s H E).nox (defBody st) t ∧ t { nx := fun _ H' => Q .non H', rt := Q } (start N vs) H) : FnG P w K mg base (k + 1) f fd ps sp := by
  obtain ⟨oc, od, kV, doc, pm, an, cdv, ct, osl, rfl, lk, code⟩ := F.ex
  constructor
  · exact len
  intro A gA room outer s H env args us vs Q E bind rel want
  have nvs := len vs H Q E want
  have inK : K.In s.heap := env.mod.kin.keeps fun b o e => (env.bs b o e).1
  have nolim : s.heap.NoLimit := env.mod.nolimit.keeps fun b o e => (env.bs b o e).1
  obtain ⟨t, pt, rt⟩ := body cdv A outer s H vs Q E gA (room.deeper _) want
  apply codeAny_call_function room.depth (inK _ _ lk) rfl S.co S.gen rfl (PySem.W.codeRec_of inK code)
  apply bind
  refine wpAny_newFunctionEnv_cells S.kind (fun y my => ?_) fun e' he' s1 inc => ?_
  · obtain ⟨n, v⟩ := y
    cases S.par n (List.of_mem_zip my).1 with
    | inl h => exact .inl h
    | inr h => exact .inr ⟨h, PySem.W.cellsFrom_some _ _ _ (.inl h)⟩
  cases he'
  refine ⟨nolim.keeps inc.toInCall.keep, codeAny_func ?_⟩
  have I0 : Inv (cxOf CX0 P w K mg base N qual (defScope st) f cdv A outer s H E) [] (start N vs) H s1 := inv_start S room.hd env nvs rel inc
  refine wpAny_mono (pt.nox.run [] s1 (start N vs) H _ I0 rt) ?_ fun _ _ h => h
  intro fl s' h
  cases fl with
  | ret u =>
    obtain ⟨v, _, H', J, r, q⟩ := h
    exact ⟨v, H', J.os, J.bare, J.base, J.hok, r, q⟩
  | next =>
    obtain ⟨_, H', J, q⟩ := h
    exact ⟨V.non, H', J.os, J.bare, J.base, J.hok, rfl, q⟩
  | brk => obtain ⟨_, _, _, q⟩ := h; exact q.elim
  | cont => obtain ⟨_, _, _, q⟩ := h; exact q.elim
end
/-- the law's row from such a promise -/
theorem walk_g {l : PySem.W.OpenLaw} {n k : Nat} {q : Program} {loose : List Str} {XP : (Str → Option Value) → Heap → Prop} {YP : World → Heap → Prop} {d : DefRec} {K : Params → PySem.W.Frag} {sp : World → Sp} {x : Str}
    (most : l.most = some n) (small : n ≤ sizeLine) (nodf : d.params.defaults = []) (room : Room k callerA) (part : ∀ (w : World) (h : Heap), YP w h → (K w.params).In h)
    (F : ∀ (w : World) (mg : Str → Option Value) (fa : Addr) (h : Heap), (K w.params).In h → h.Ns mainGlobals mg → mg d.name = some (.ref fa) →
      ∃ fd : FuncData, (∀ (s : Shared) (u : Value), BindsTo s fd ⟨[u], []⟩ [(x, u)]) ∧ ∀ base : Heap, FnG l.prog w (K w.params) mg base k fa fd [x] (sp w))
    (holds : ∀ (w : World) (H : Hp) (a : Addr) (ns : List Int), ns.length ≤ n → SqL (K w.params) H a (ns.map V.int) → sp w [.ref a] H (fun v _ => v = .bl true) fun _ _ _ => False) :
    PySem.W.WalkO q loose XP YP l.row.toRowW d [] (fun f vs => PySem.call f vs) := by
  apply Att.attach_call most nodf
  intro w s0 s mg mb fa o pm cd doc a vs ns G Y _ _ _ isLaw obj hin len gens
  have inK := part w _ Y
  obtain ⟨fd, bind, ok⟩ := F w mg fa _ inK G.T.g isLaw
  -- the heap as told: the script alone, unless it is the module's own
  let H : Hp := fun b => if b = a ∧ (K w.params).lookup a = none then some (.frz { cls := .type "list", data := .seq vs.toArray } (.lst (ns.map V.int))) else none
  have hAt : ∀ {b u}, H b = some u → b = a ∧ (K w.params).lookup a = none ∧ u = .frz { cls := .type "list", data := .seq vs.toArray } (.lst (ns.map V.int)) := by
    intro b u e
    by_cases z : b = a ∧ (K w.params).lookup a = none
    · rw [show H b = _ from if_pos z] at e
      exact ⟨z.1, z.2, (Option.some.inj e).symm⟩
    · rw [show H b = _ from if_neg z] at e; cases e
  have rv := vals_ints hin
  have lz : ns.length ≤ sizeLine := Nat.le_trans len small
  have seq : SqL (K w.params) H a (ns.map V.int) := by
    cases z : (K w.params).lookup a with
    | none => exact .inl (.inr ⟨_, if_pos ⟨rfl, z⟩⟩)
    | some o' =>
      have e := inK a o' z
      rw [obj] at e
      cases e
      exact .inr ⟨_, vs.toArray, _, z, rfl, rfl, rfl, by rw [List.size_toArray, hin.length]; exact lz, by simpa using rv⟩
  have hok : HOk l.prog w H s.heap := by
    intro b u e
    obtain ⟨rfl, _, rfl⟩ := hAt e
    exact ⟨obj, by rw [List.length_map]; exact lz, vs, _, rv, obj⟩
  have off : ∀ {b o}, s.heap.get? b = some o → (∀ us m, o.data ≠ .seq us m) → H b = none := by
    intro b o e no
    cases z : H b with
    | none => rfl
    | some u =>
      obtain ⟨rfl, _, _⟩ := hAt z
      rw [obj] at e; cases e
      exact (no _ _ rfl).elim
  have low : ∀ {b m}, s.heap.Ns b m → (hidT s.heap H).Ns b m := by
    rintro b m ⟨o, es, ep, e, dt, r⟩
    exact ⟨o, es, ep, hidT_get e (off e (by rw [dt]; exact fun _ _ z => by cases z)), dt, r⟩
  have inB : (K w.params).In (hidT s.heap H) := by
    intro b o e
    apply hidT_get (inK b o e)
    cases z : H b with
    | none => rfl
    | some u =>
      obtain ⟨rfl, none', _⟩ := hAt z
      rw [none'] at e; cases e
  obtain ⟨mc, g1, g2⟩ := G.T.nolimit
  have start : Env0 l.prog w (K w.params) mg (hidT s.heap H) callerA [] s H := {
    frames := rfl
    mod := ⟨inB, low G.T.g, ⟨mb, low G.T.b, G.T.builtins⟩, mc, low g1, g2⟩
    bs := fun _ _ e => of_hidT e
    bsz := Nat.le_of_eq (hidT_size _ _)
    funs := trivial
    frf := fun b m => nomatch (show b ∈ ([] : List Addr) from m)
    hok := hok
    bare := .of_eq gens }
  have run := (ok (hidT s.heap H)).run callerA rfl room [] s H start ⟨[.ref a], []⟩ [.ref a] [.ref a] _ _ (bind s (.ref a)) (.cons rfl .nil) (holds w H a ns len seq)
  refine codeAny_mono run ?_
  intro r s' h
  match r, h with
  | .error _, h => exact h.elim
  | .ok .next, h => exact h.elim
  | .ok .brk, h => exact h.elim
  | .ok .cont, h => exact h.elim
  | .ok (.ret u), h =>
    obtain ⟨v, H', os, bare, un, hok', rel, isT⟩ := h
    have e1 : v = .bl true := isT
    subst e1
    have e2 : u = Value.bool true := rel
    subst e2
    refine ⟨rfl, OldK.of_keep fun b o e => ?_, os, bare⟩
    cases z : H b with
    | none => exact un.keep b o e z (fun m => nomatch (show b ∈ ([] : List Addr) from m)) (fun m => nomatch m)
    | some t =>
      obtain ⟨rfl, _, rfl⟩ := hAt z
      have two := hok' b _ (un.frzs b _ _ z)
      rw [obj] at e; cases e
      exact two.1
theorem room70 {k : Nat} {A : Around} (r : Room k A) : A.units + 70 < cLine := by have := r.un; omega
/-! repr of data -/
section
variable {X : Cx}
def rReprD (K : PySem.W.Frag) : List V → Hp → VK → Prop := fun vs H Q => ∃ (a : Addr) (d : PyData), vs = [V.ref a] ∧ Dp K H (.ref a) d ∧ d.showable = true ∧ d.hasDict = false ∧ d.depth ≤ 64 ∧ d.shown.length ≤ sizeLine ∧ Q (.str d.shown) H
theorem cr_reprD (gA : X.A.guards = some []) (un : X.A.units + 70 < cLine) : CallR X (.builtin "repr") (rReprD X.K) := by
  intro pins s σ H xs us Q I r h
  obtain ⟨a, d, rfl, dp, sh, nd, dep, len, q⟩ := h
  rw [Vals.ref1 r]
  obtain ⟨as, rd⟩ := Dp.reads I d (.ref a) (.ref a) dp rfl
  exact repr_of_reads' rd sh (PyData.noDict_hsm nd) gA (by omega) (fun _ _ e => e) (fun h' u tk hk => ⟨.str d.shown, H, I.kept hk, ⟨_, rfl⟩, q⟩) len
end
end L2

set_option Elab.async false
set_option linter.all false
set_option maxRecDepth 100000
/-! dicts whose keys are ints: what a reading asks of them, over lists of pairs -/
namespace L2
open PySem PySem.Spec PyProof.Rows
section
variable {X : Cx}
/-- name = {..} on one line, the name a local: the dict comprehension's form of the rule for a list -/
theorem ps_setDc {i : Nat} {y : Str} {py : Pos} {kx vx tg iter : Expr} {ifs : List Expr} {scope : Scope} {own : List (Str × Nat)} {pos spos : Pos} {wi : TI} {g : TG} {tt : TT} {tk tv : TE} (hc : X.calm = true) (hN : X.N.Nodup) (hy : X.N[i]? = some y) (hyl : X.env.scope.names.lookup y = some .local)
    (hsw : swapsWith (.DictComp kx vx [⟨tg, iter, ifs, 0⟩] scope pos) (some (.Name y py)) spos.line X.env = pure true) (hi : PI X tg iter wi) (ok : BlkOk X.N X.env.scope scope own)
    (hg : ∀ (s : Shared) (H : Hp) (C : Addr) (cl : List (Str × Addr)) (fp : List Addr), PG (X.blk s H scope (compEnvC scope cl C X.env) fp) tg g) (ht : ∀ (s : Shared) (H : Hp) (C : Addr) (cl : List (Str × Addr)) (fp : List Addr), PTs (X.blk s H scope (compEnvC scope cl C X.env) fp) ifs tt)
    (hk : ∀ (s : Shared) (H : Hp) (C : Addr) (cl : List (Str × Addr)) (fp : List Addr), PE (X.blk s H scope (compEnvC scope cl C X.env) fp) kx tk)
    (he : ∀ (s : Shared) (H : Hp) (C : Addr) (cl : List (Str × Addr)) (fp : List Addr), PE (X.blk s H scope (compEnvC scope cl C X.env) fp) vx tv) (hs : ∀ x, foldedSetIterable iter X.env x = pure x := by intro _; rfl) :
    PS X (.Assign [.Name y py] (.DictComp kx vx [⟨tg, iter, ifs, 0⟩] scope pos) spos) (tAsg (tDc wi g tt tk tv (own.map (·.2))) (gName i)) := by
  refine ⟨fun pins s σ H D I h => ?_⟩
  rw [exec_Assign_Name_used _ _ _ _ hsw]
  refine wpAny_bind (wpAny_standAt (wpAny_bind ?_))
  show wpAny _ X.A (do let _ ← comprehension (.DictComp kx vx [⟨tg, iter, ifs, 0⟩] scope pos) scope X.env (firstIterPos [⟨tg, iter, ifs, 0⟩] pos) newDict false (eval iter X.env) (some (assign (.Name y py) X.env))) _ _ s
  have h : tDc wi g tt tk tv (own.map (·.2)) σ H (fun x H1 => gName i x σ H1 D.nx) := h
  refine wpAny_bind (thn (dc_core (Qf := fun _ s' => SP X pins D .next s') hc hN I hi ok hg ht hk he hs h fun L C s' m H' I' q hn f => ?_) fun _ s' hq => wpAny_pure (wpAny_pure hq))
  show wpAny _ _ (assign (.Name y py) X.env (.ref L)) _ _ _
  refine wpAny_assign_Name (store_ok2 (v := V.ref L) I' hN hy (.inl hyl) rfl (fun s2 I2 ⟨a, sb, ha⟩ => ?_) (.inr hyl))
  obtain ⟨f0, f1, f2, f3, f4, f5⟩ := f
  have haC : C ≠ a := by
    rcases ha with z | z
    · rw [z]; exact f1
    · exact fun e => f4 y a z e.symm
  refine ⟨m, hn.sameBut sb haC, fun h3 sb3 => ?_⟩
  exact ⟨_, H', I2.turned (t' := s2.toks) (fun b o hb e => (sb3.2 b hb).trans e) f0 f1 f3 f4 f5, q⟩
theorem sw_trueD {kx vx : Expr} {gs : List Comprehension} {scope : Scope} {pos py : Pos} {y : Str} {l : Nat} {env : Env} (hk : env.scope.kind = .function) (hy : env.scope.names.lookup y = some .local) (hl : (py.line == pos.line) = true)
    (ha : (scope.names.any fun (n, k) => n == y && (k == .local || k == .cell)) = false) : swapsWith (.DictComp kx vx gs scope pos) (some (.Name y py)) l env = pure true := by
  have ky : env.kindOf y = some .local := hy
  have hb : env.blockKind = .function := by unfold Env.blockKind; rw [hk]; rfl
  unfold swapsWith
  simp only [hb, ky, ha, Expr.pos, hl]
  rfl
end
end L2
namespace Rd
open PySem PySem.Spec PyProof.Rows L2
variable {K : PySem.W.Frag} {σ : L2.St} {H : Hp} {D : Ends} {Q : VK} {ta tb te tc td ty tx : TE} {x y v : V}
/-- a dict of ints to values, in order -/
abbrev DI (m : List (Int × V)) : HO := .dK (m.map fun p => (Sum.inl p.1, p.2))
def lk (m : List (Int × V)) (k : Int) : Option V := (m.find? fun p => decide (p.1 = k)).map (·.2)
def pt (m : List (Int × V)) (k : Int) (v : V) : List (Int × V) := if (m.any fun p => decide (p.1 = k)) = true then m.map (fun p => if p.1 = k then (p.1, v) else p) else m ++ [(k, v)]
theorem valV_di (m : List (Int × V)) (k : Int) : valV (m.map fun p => ((Sum.inl p.1 : Key), p.2)) (Sum.inl k) = lk m k := by
  unfold valV lk
  induction m with
  | nil => rfl
  | cons a r ih =>
    rw [List.map_cons, List.find?_cons, List.find?_cons]
    by_cases h : a.1 = k
    · have e : decide ((Sum.inl a.1 : Key) = Sum.inl k) = true := decide_eq_true (by rw [h])
      rw [e, decide_eq_true h]; rfl
    · have e : decide ((Sum.inl a.1 : Key) = Sum.inl k) = false := decide_eq_false fun z => h (Sum.inl.inj z)
      rw [e, decide_eq_false h]; exact ih
theorem putK_di (m : List (Int × V)) (k : Int) (v : V) : putK (m.map fun p => ((Sum.inl p.1 : Key), p.2)) (Sum.inl k) v = (pt m k v).map fun p => ((Sum.inl p.1 : Key), p.2) := by
  have e : ∀ p : Int × V, decide ((Sum.inl p.1 : Key) = Sum.inl k) = decide (p.1 = k) := fun p => by
    by_cases h : p.1 = k
    · rw [decide_eq_true h, decide_eq_true (by rw [h])]
    · rw [decide_eq_false h, decide_eq_false fun z => h (Sum.inl.inj z)]
  unfold putK pt
  rw [List.any_map]
  have e2 : (m.any ((fun kv : Key × V => decide (kv.1 = Sum.inl k)) ∘ fun p => ((Sum.inl p.1 : Key), p.2))) = m.any fun p => decide (p.1 = k) := by
    congr 1; funext p; exact e p
  rw [e2]
  split
  · rw [List.map_map, List.map_map]
    congr 1; funext p
    show (if (Sum.inl p.1 : Key) = Sum.inl k then ((Sum.inl p.1 : Key), v) else (Sum.inl p.1, p.2)) = _
    by_cases h : p.1 = k
    · simp [h]
    · have h2 : ¬ (Sum.inl p.1 : Key) = Sum.inl k := fun z => h (Sum.inl.inj z)
      simp [h]
  · rw [List.map_append]; rfl
theorem get_di {a : Addr} {m : List (Int × V)} {k : Int} (h : Rd H a (DI m)) : DGet H a (.int k) (lk m k) := .inl ⟨_, Sum.inl k, h, rfl, (valV_di m k).symm⟩
theorem rd_of {a : Addr} {u : HO} (h : H a = some u) : L2.Rd H a u := .inl h
theorem rd_fz {a : Addr} {u : HO} {o : Obj} (h : H a = some (.frz o u)) : L2.Rd H a u := .inr ⟨o, h⟩
theorem lk_pt (m : List (Int × V)) (k k' : Int) (v : V) : lk (pt m k v) k' = if k' = k then some v else lk m k' := by
  unfold pt
  split
  · rename_i c
    unfold lk
    induction m with
    | nil => simp at c
    | cons a r ih =>
      rw [List.map_cons, List.find?_cons, List.find?_cons]
      by_cases h : a.1 = k
      · rw [if_pos h]
        by_cases h2 : k' = k
        · rw [if_pos h2, decide_eq_true (by rw [h, h2])]; rfl
        · have e : ¬ a.1 = k' := fun z => h2 (by rw [← z, h])
          rw [if_neg h2, decide_eq_false e]
          have e2 : List.map (fun p => if p.1 = k then (p.1, v) else p) r = List.map (fun p => if p.1 = k then (p.1, v) else p) r := rfl
          have : (List.find? (fun p => decide (p.1 = k')) (List.map (fun p => if p.1 = k then (p.1, v) else p) r)).map (·.2) = (List.find? (fun p => decide (p.1 = k')) r).map (·.2) := by
            clear ih c e2
            induction r with
            | nil => rfl
            | cons b r ih =>
              rw [List.map_cons, List.find?_cons, List.find?_cons]
              by_cases h3 : b.1 = k
              · rw [if_pos h3, decide_eq_false (fun z : b.1 = k' => h2 (by rw [← z, h3]))]; exact ih
              · rw [if_neg h3]
                by_cases h4 : b.1 = k'
                · rw [decide_eq_true h4]
                · rw [decide_eq_false h4]; exact ih
          exact this
      · rw [if_neg h]
        have c2 : (r.any fun p => decide (p.1 = k)) = true := by
          rw [List.any_cons, decide_eq_false h, Bool.false_or] at c; exact c
        by_cases h4 : a.1 = k'
        · have e : ¬ k' = k := fun z => h (by rw [h4, z])
          rw [decide_eq_true h4, if_neg e]
        · rw [decide_eq_false h4]; exact ih c2
  · rename_i c
    unfold lk
    rw [List.find?_append]
    have nk : ∀ p ∈ m, ¬ p.1 = k := fun p hp z => c (List.any_eq_true.mpr ⟨p, hp, decide_eq_true z⟩)
    by_cases h2 : k' = k
    · rw [if_pos h2, h2]
      have e : List.find? (fun p => decide (p.1 = k)) m = none := List.find?_eq_none.mpr fun p hp z => nk p hp (of_decide_eq_true z)
      rw [e]; simp
    · rw [if_neg h2]
      have e : ¬ k = k' := fun z => h2 z.symm
      have e2 : List.find? (fun p : Int × V => decide (p.1 = k')) [(k, v)] = none := by simp [e]
      rw [e2, Option.or_none]
theorem pt_len {m : List (Int × V)} {k : Int} {v : V} : (pt m k v).length ≤ m.length + 1 := by
  unfold pt
  split <;> simp
/-! ### expressions -/
def NewD (Q : VK) (H : Hp) : Prop := ∀ p, H p = none → Q (.ref p) (upd H p (.dK []))
theorem dnew (h : NewD Q H) : tDNewK σ H Q := h
theorem nwD (h : ∀ p H', H p = none → Same H H' → H' p = some (DI []) → Q (.ref p) H') : NewD Q H := fun p np => h p _ np (same_new np) upd_same
def DinG (Q : VK) (x y : V) (H : Hp) : Prop := ∃ a o, x = .ref a ∧ DGet H a y o ∧ Q (.bl o.isSome) H
theorem din (h : ty σ H fun y H1 => td σ H1 fun x H2 => DinG Q x y H2) : tDIn ty td σ H Q := h
theorem dinI {a : Addr} {m : List (Int × V)} {k : Int} (h : L2.Rd H a (DI m)) (q : Q (.bl (lk m k).isSome) H) : DinG Q (.ref a) (.int k) H := ⟨a, _, rfl, get_di h, q⟩
def DnotG (Q : VK) (x y : V) (H : Hp) : Prop := ∃ a o, x = .ref a ∧ DGet H a y o ∧ Q (.bl (!o.isSome)) H
theorem dnot (h : ty σ H fun y H1 => td σ H1 fun x H2 => DnotG Q x y H2) : tDNotIn ty td σ H Q := h
theorem dnotI {a : Addr} {m : List (Int × V)} {k : Int} (h : L2.Rd H a (DI m)) (q : Q (.bl (!(lk m k).isSome)) H) : DnotG Q (.ref a) (.int k) H := ⟨a, _, rfl, get_di h, q⟩
def DgG (Q : VK) (x y : V) (H : Hp) : Prop := ∃ a v, x = .ref a ∧ DGet H a y (some v) ∧ Q v H
theorem dget (h : td σ H fun x H1 => ty σ H1 fun y H2 => DgG Q x y H2) : tDGet td ty σ H Q := h
theorem dgetI {a : Addr} {m : List (Int × V)} {k : Int} (h : L2.Rd H a (DI m)) (e : lk m k = some v) (q : Q v H) : DgG Q (.ref a) (.int k) H := ⟨a, v, rfl, e ▸ get_di h, q⟩
def Dg2G (Q : VK) (a : Addr) (y z : V) (H : Hp) : Prop := ∃ o, DGet H a y o ∧ Q (o.getD z) H
theorem dget2 (h : td σ H fun x H1 => ∃ a, x = .ref a ∧ IsD H1 a ∧ ty σ H1 fun y H2 => tx σ H2 fun z H3 => Dg2G Q a y z H3) : tDGet2 td ty tx σ H Q := h
theorem isd {a : Addr} {m : List (Int × V)} {A : Prop} (h : H a = some (DI m)) (q : A) : IsD H a ∧ A := ⟨.inl ⟨_, .inl h⟩, q⟩
theorem dget2I {a : Addr} {m : List (Int × V)} {k : Int} {z : V} (h : L2.Rd H a (DI m)) (q : Q ((lk m k).getD z) H) : Dg2G Q a (.int k) z H := ⟨_, get_di h, q⟩
def DpG (D : Ends) (σ : L2.St) (x y v : V) (H : Hp) : Prop := ∃ a H4, x = .ref a ∧ DPut H a y v H4 ∧ D.nx σ H4
theorem dput {tv : TE} (h : tv σ H fun v H1 => td σ H1 fun x H2 => ty σ H2 fun y H3 => DpG D σ x y v H3) : sDPut td ty tv D σ H := h
theorem dputI {a : Addr} {m : List (Int × V)} {k : Int} (h : H a = some (DI m)) (l : m.length < 100000) (q : D.nx σ (upd H a (DI (pt m k v)))) : DpG D σ (.ref a) (.int k) v H :=
  ⟨a, _, rfl, .inl ⟨_, Sum.inl k, h, rfl, by rw [List.length_map]; exact szl l, rfl⟩, by rw [putK_di]; exact q⟩
/-- dict(d) -/
def DictOf (Q : VK) (vs : List V) (H : Hp) : Prop := ∃ (a : Addr) (kvs : List (Key × V)), vs = [.ref a] ∧ L2.Rd H a (.dK kvs) ∧ ∀ p, H p = none → Q (.ref p) (upd H p (.dK kvs))
theorem cbDictOf {tr : TA} (h : tr σ H (DictOf Q)) : tCB (fun xs H Q => ∃ (a : Addr) (kvs : List (Key × V)), xs = [.ref a] ∧ L2.Rd H a (.dK kvs) ∧ ∀ p, H p = none → Q (.ref p) (upd H p (.dK kvs))) tr σ H Q := h
theorem dictOf {a : Addr} {m : List (Int × V)} (s : H a = some (DI m)) (h : ∀ p H', H p = none → Same H H' → H' p = some (DI m) → Q (.ref p) H') : DictOf Q [.ref a] H := ⟨a, _, rfl, .inl s, fun p np => h p _ np (same_new np) upd_same⟩
theorem isi_dd {n : Addr} {m : List (Int × V)} (h : H n = some (DI m)) (q : Q (.bl true) H) : rIsi K [.ref n, .ty "dict"] H Q := isi (.base (.dK h)) (by decide +kernel) q
/-! ### == -/
theorem neDict {a b : Addr} {m n : List (Int × V)} (ea : H a = some (DI m)) (eb : H b = some (DI n)) (l : m.length = n.length) (e : ∀ p ∈ m, lk n p.1 = some p.2 ∧ flatB p.2 = true) (q : Q (.bl false) H) : rNeDA (.ref a) (.ref b) H Q :=
  ⟨a, b, _, _, rfl, rfl, ea, eb, by rw [List.length_map, List.length_map]; exact l, fun p hp => by
    obtain ⟨x, hx, rfl⟩ := List.mem_map.mp hp
    rw [valV_di]; exact e x hx, q⟩
theorem eqDict {a b : Addr} {m n : List (Int × V)} (ea : H a = some (DI m)) (eb : H b = some (DI n)) (l : m.length = n.length) (e : ∀ p ∈ m, lk n p.1 = some p.2 ∧ flatB p.2 = true) (q : Q (.bl true) H) : rEqDA (.ref a) (.ref b) H Q :=
  ⟨a, b, _, _, rfl, rfl, ea, eb, by rw [List.length_map, List.length_map]; exact l, fun p hp => by
    obtain ⟨x, hx, rfl⟩ := List.mem_map.mp hp
    rw [valV_di]; exact e x hx, q⟩
/-! ### walks -/
variable {R : It → Hp → Prop}
theorem iitems (h : te σ H fun x H1 => ∃ d o kvs, x = .ref d ∧ H1 d = some (.frz o (.dK kvs)) ∧ R (Iti d o kvs) H1) : iItems te σ H R := h
theorem itA {d : Addr} {o : Obj} {kvs : List (Key × V)} {P : Addr → Obj → List (Key × V) → Prop} (h : H d = some (.frz o (.dK kvs))) (q : P d o kvs) : ∃ d' o' kvs', V.ref d = .ref d' ∧ H d' = some (.frz o' (.dK kvs')) ∧ P d' o' kvs' := ⟨d, o, kvs, rfl, h, q⟩
theorem ikeys (h : te σ H fun x H1 => ∃ d o, x = .ref d ∧ ((∃ kvs, H1 d = some (.frz o (.dK kvs)) ∧ R (Itk d o kvs) H1) ∨ ∃ kvs, H1 d = some (.frz o (.dT kvs)) ∧ R (Itkt d o kvs) H1)) : iKeys te σ H R := h
theorem ikA {d : Addr} {o : Obj} {kvs : List (Key × V)} {P : Addr → Obj → List (Key × V) → Prop} {B : Addr → Obj → Prop} (h : H d = some (.frz o (.dK kvs))) (q : P d o kvs) : ∃ d' o', V.ref d = .ref d' ∧ ((∃ kvs', H d' = some (.frz o' (.dK kvs')) ∧ P d' o' kvs') ∨ B d' o') := ⟨d, o, rfl, .inl ⟨kvs, h, q⟩⟩
theorem lockS {t : TS} {d : Addr} {m : List (Int × V)} (h : H d = some (DI m)) (q : ∀ od, t ⟨fun σ' H' => H' d = some (.frz od (DI m)) ∧ D.nx σ' (upd H' d (DI m)), fun v H' => H' d = some (.frz od (DI m)) ∧ D.rt v (upd H' d (DI m)), fun σ' H' => H' d = some (.frz od (DI m)) ∧ D.bk σ' (upd H' d (DI m)), fun σ' H' => H' d = some (.frz od (DI m)) ∧ D.ct σ' (upd H' d (DI m))⟩ σ (upd H d (.frz od (DI m)))) : tLock t D σ H :=
  ⟨d, _, h, trivial, q⟩
theorem lockE {t : TE} {d : Addr} {m : List (Int × V)} (h : H d = some (DI m)) (q : ∀ od, t σ (upd H d (.frz od (DI m))) fun v H' => H' d = some (.frz od (DI m)) ∧ Q v (upd H' d (DI m))) : tLockE t σ H Q := ⟨d, _, h, trivial, q⟩
/-- the dict given back: all is kept -/
theorem unlock {H' : Hp} {d : Addr} {u : HO} (h : H d = some u) (b : But d H H') : Same H (upd H' d u) := fun c o e => by
  by_cases z : c = d
  · subst z; rw [upd_same]; exact h.symm.trans e
  · rw [upd_ne z]; exact b c o z e
theorem lock {d : Addr} {u : HO} : But d H (upd H d u) := But.at_
/-- the i-th pair of a walk over items: a new tuple -/
theorem items_at {m : List (Int × V)} {i : Nat} {x : V} {H H' : Hp} (y : YPair (fun i => ((m.map fun p => ((Sum.inl p.1 : Key), p.2))[i]?).map fun kv => kV kv.1) (fun i => ((m.map fun p => ((Sum.inl p.1 : Key), p.2))[i]?).map Prod.snd) i H x H') :
    ∃ (T : Addr) (p : Int × V), m[i]? = some p ∧ x = .ref T ∧ H T = none ∧ H' = upd H T (.tup [.int p.1, p.2]) := by
  obtain ⟨T, a, b, e1, e2, e3, e4, e5⟩ := y
  dsimp only at e4 e5
  rw [List.getElem?_map] at e4 e5
  cases e : m[i]? with
  | none => rw [e] at e4; cases e4
  | some p =>
    rw [e] at e4 e5
    cases e4; cases e5
    exact ⟨T, p, rfl, e1, e2, e3⟩
theorem keys_at {m : List (Int × V)} {i : Nat} {x : V} {H H' : Hp} (y : H' = H ∧ ∃ k v, (m.map fun p => ((Sum.inl p.1 : Key), p.2))[i]? = some (k, v) ∧ x = kV k) : H' = H ∧ ∃ p : Int × V, m[i]? = some p ∧ x = .int p.1 := by
  obtain ⟨e, k, v, h, rfl⟩ := y
  rw [List.getElem?_map] at h
  cases e2 : m[i]? with
  | none => rw [e2] at h; cases h
  | some p => rw [e2] at h; cases h; exact ⟨e, p, rfl, rfl⟩
/-! ### comprehensions -/
theorem dc {wi : TI} {g : TG} {tt : TT} {tk tv : TE} {ws : List Nat} (h : wi σ H fun J H1 => ∀ D, H1 D = none → ∃ W : Nat → Nat → Hp → Prop, (∃ m, W 0 m (upd H1 D (.dK []))) ∧ ∀ i m H, W i m H →
  (J.stop i H ∧ Q (.ref D) H) ∨ (J.go i H ∧ ∃ Nx : Hp → Prop, (∀ H', Nx H' → ∃ m', m' < m ∧ W (i + 1) m' H') ∧ ∀ x H', J.yld i H x H' → g x (wipe σ ws) H' fun σ2 H2 => wipe σ2 ws = wipe σ ws ∧ tt σ2 H2 fun b H3 =>
    if b = true then tk σ2 H3 fun y H4 => tv σ2 H4 fun z H5 => ∃ kvs k, y = kV k ∧ H5 D = some (.dK kvs) ∧ kvs.length < sizeLine ∧ Nx (upd H5 D (.dK (putK kvs k z))) else Nx H3)) : tDc wi g tt tk tv ws σ H Q := h
theorem dc_it {J : It} {n : Nat} {G : Hp → Prop} {Y : Nat → Hp → V → Hp → Prop} (w : Walk J n G Y) {g : TG} {tt : TT} {tk tv : TE} {vs : List Nat} {H1 : Hp} {d : Addr} {Qd : Hp → Prop} (Pv : Nat → Hp → Prop) (h0 : Pv 0 (upd H1 d (DI []))) (hG : ∀ i H, i ≤ n → Pv i H → G H)
    (hs : ∀ i x H H' (Kt : V → V → Hp → Prop) (Kn : Hp → Prop), i < n → Pv i H → Y i H x H' → (∀ m k z H5, H5 d = some (DI m) → m.length < 100000 → Pv (i + 1) (upd H5 d (DI (pt m k z))) → Kt (.int k) z H5) → (∀ H3, Pv (i + 1) H3 → Kn H3) →
      g x (wipe σ vs) H' fun σ2 H2 => wipe σ2 vs = wipe σ vs ∧ tt σ2 H2 fun b H3 => if b = true then tk σ2 H3 fun y H4 => tv σ2 H4 fun z H5 => Kt y z H5 else Kn H3)
    (hd : ∀ H, Pv n H → Qd H) :
    ∃ W : Nat → Nat → Hp → Prop, (∃ m, W 0 m (upd H1 d (.dK []))) ∧ ∀ i m H, W i m H →
      (J.stop i H ∧ Qd H) ∨ (J.go i H ∧ ∃ Nx : Hp → Prop, (∀ H', Nx H' → ∃ m', m' < m ∧ W (i + 1) m' H') ∧ ∀ x H', J.yld i H x H' → g x (wipe σ vs) H' fun σ2 H2 => wipe σ2 vs = wipe σ vs ∧ tt σ2 H2 fun b H3 =>
        if b = true then tk σ2 H3 fun y H4 => tv σ2 H4 fun z H5 => ∃ kvs k, y = kV k ∧ H5 d = some (.dK kvs) ∧ kvs.length < sizeLine ∧ Nx (upd H5 d (.dK (putK kvs k z))) else Nx H3) := by
  refine ⟨fun i m H => m = n - i ∧ i ≤ n ∧ Pv i H, ⟨n, by simp, Nat.zero_le _, h0⟩, ?_⟩
  rintro i m H ⟨rfl, hi, p⟩
  have q := hG i H hi p
  by_cases hlt : i < n
  · refine .inr ⟨w.goes i H hlt q, Pv (i + 1), fun H' p' => ⟨n - (i + 1), by omega, rfl, hlt, p'⟩, fun x H' y => ?_⟩
    exact hs i x H H' (fun y z H5 => ∃ kvs k, y = kV k ∧ H5 d = some (.dK kvs) ∧ kvs.length < sizeLine ∧ Pv (i + 1) (upd H5 d (.dK (putK kvs k z)))) _ hlt p (w.yields i H x H' hlt q y)
      (fun m k z H5 h5 hl r => ⟨_, Sum.inl k, rfl, h5, by rw [List.length_map]; exact szl hl, by rw [putK_di]; exact r⟩) fun _ h => h
  · have e : i = n := by omega
    subst e
    exact .inl ⟨w.stops H q, hd H p⟩
end Rd

set_option Elab.async false
set_option linter.all false
set_option maxRecDepth 100000
namespace L2
open PySem PySem.Spec PyProof.Rows
/-- max(xs, default=d) of a list of ints -/
def rMaxDf (K : PySem.W.Frag) : List V → List V → Hp → VK → Prop := fun vs zs H Q => ∃ (a : Addr) (ns : List Int) (d : V), vs = [V.ref a] ∧ zs = [d] ∧ SqL K H a (ns.map V.int) ∧ (ns = [] → Q d H) ∧ ∀ m, m ∈ ns → (∀ y ∈ ns, y ≤ m) → Q (.int m) H
theorem maxOf_spec (y : Int) (ys : List Int) : PySem.W.maxOf y ys ∈ y :: ys ∧ ∀ z ∈ y :: ys, z ≤ PySem.W.maxOf y ys := by
  unfold PySem.W.maxOf
  induction ys generalizing y with
  | nil => simp
  | cons b r ih =>
    obtain ⟨h1, h2⟩ := ih (if PySem.W.DatumOrd.lt y b = true then b else y)
    have e : (PySem.W.DatumOrd.lt y b = true) = (y < b) := by
      show (decide (y < b) = true) = (y < b)
      simp
    rw [List.foldl_cons]
    refine ⟨?_, fun z m => ?_⟩
    · rcases List.mem_cons.mp h1 with h | h
      · rw [h]
        split
        · exact List.mem_cons_of_mem _ List.mem_cons_self
        · exact List.mem_cons_self
      · exact List.mem_cons_of_mem _ (List.mem_cons_of_mem _ h)
    · have h0 := h2 _ List.mem_cons_self
      by_cases c : y < b
      · rw [if_pos (by rw [e]; exact c)] at h0 h2 ⊢
        rcases List.mem_cons.mp m with rfl | m
        · omega
        rcases List.mem_cons.mp m with rfl | m
        · exact h0
        · exact h2 z (List.mem_cons_of_mem _ m)
      · rw [if_neg (by rw [e]; exact c)] at h0 h2 ⊢
        rcases List.mem_cons.mp m with rfl | m
        · exact h0
        rcases List.mem_cons.mp m with rfl | m
        · omega
        · exact h2 z (List.mem_cons_of_mem _ m)
theorem cr_maxDf {X : Cx} (hc : X.calm = true) (hu : X.A.units + 65 < cLine) : CallRK X (.builtin "max") [Str.ofString "default"] (rMaxDf X.K) := by
  intro pins s σ H vs zs us ws Q I r rz h
  obtain ⟨a, ns, d, rfl, rfl, hs, h0, h1⟩ := h
  obtain ⟨its, rv, hl, _⟩ := I.list hs
  rw [Vals.ref1 r]
  cases rz with
  | cons rd rt =>
    rename_i ud ut
    cases rt
    show wpAny _ _ (call (.builtin "max") [.ref a] [(Str.ofString "default", ud)]) _ _ s
    refine PySem.W.max_list_datum_default (α := Int) (xs := ns) (I.ok.hd hc) hl.isList (PySem.W.HoldAll.of_ints rv.ints) (by show X.A.units + 1 + 0 < cLine; omega) (fun e h' tk hk => ⟨d, H, I.kept hk, rd, h0 e⟩) fun y ys i v h' tk e hi hv hk => ?_
    obtain ⟨as, rd2⟩ := hv
    subst e
    obtain ⟨m1, m2⟩ := maxOf_spec y ys
    generalize hm : PySem.W.maxOf y ys = m at *
    have rd3 : Reads h' v (.int m) as := rd2
    cases rd3
    exact ⟨.int m, H, I.kept hk, ⟨_, rfl⟩, h1 m m1 m2⟩
end L2
namespace Rd
open PySem PySem.Spec PyProof.Rows L2
variable {K : PySem.W.Frag} {σ : L2.St} {H : Hp} {D : Ends} {Q : VK} {td ty tx : TE} {x y v : V} {tr tk : TA}
def MxG (K : PySem.W.Frag) (Q : VK) (vs zs : List V) (H : Hp) : Prop := rMaxDf K vs zs H Q
theorem ckw {r : List V → List V → Hp → VK → Prop} (h : tr σ H fun vs H1 => tk σ H1 fun zs H2 => r vs zs H2 Q) : tCKw r tr tk σ H Q := h
theorem maxDf {a : Addr} {ns : List Int} {d : V} (h : H a = some (.lst (ns.map V.int))) (h0 : ns = [] → Q d H) (h1 : ∀ m, m ∈ ns → (∀ y ∈ ns, y ≤ m) → Q (.int m) H) : rMaxDf K [.ref a] [d] H Q := ⟨a, ns, d, rfl, rfl, SqL.of h, h0, h1⟩
def StG (a : Addr) (y z : V) (Q : VK) (H3 : Hp) : Prop := ∃ (kvs : List (Key × V)) (k : Key), H3 a = some (.dK kvs) ∧ y = kV k ∧ kvs.length < sizeLine ∧ (∀ v, valV kvs k = some v → Q v H3) ∧ (valV kvs k = none → Q z (upd H3 a (.dK (putK kvs k z))))
theorem dsetd (h : td σ H fun x H1 => ∃ a, x = .ref a ∧ IsD H1 a ∧ ty σ H1 fun y H2 => tx σ H2 fun z H3 => StG a y z Q H3) : tDSetd td ty tx σ H Q := h
theorem dsetdI {a : Addr} {m : List (Int × V)} {k : Int} {z : V} (h : H a = some (DI m)) (l : m.length < 100000) (h1 : ∀ v, lk m k = some v → Q v H) (h2 : lk m k = none → Q z (upd H a (DI (pt m k z)))) : StG a (.int k) z Q H :=
  ⟨_, Sum.inl k, h, rfl, by rw [List.length_map]; exact szl l, fun v e => h1 v (by rw [← valV_di]; exact e), fun e => by rw [putK_di]; exact h2 (by rw [← valV_di]; exact e)⟩
def DlG (D : Ends) (σ : L2.St) (x y : V) (H2 : Hp) : Prop := ∃ a kvs k, x = .ref a ∧ H2 a = some (.dK kvs) ∧ y = kV k ∧ (valV kvs k).isSome = true ∧ D.nx σ (upd H2 a (.dK (dropK kvs k)))
theorem ddel (h : td σ H fun x H1 => ty σ H1 fun y H2 => DlG D σ x y H2) : sDDel td ty D σ H := h
def dr (m : List (Int × V)) (k : Int) : List (Int × V) := m.filter fun p => !decide (p.1 = k)
theorem dropK_di (m : List (Int × V)) (k : Int) : dropK (m.map fun p => ((Sum.inl p.1 : Key), p.2)) (Sum.inl k) = (dr m k).map fun p => ((Sum.inl p.1 : Key), p.2) := by
  unfold dropK dr
  induction m with
  | nil => rfl
  | cons a r ih =>
    rw [List.map_cons, List.filter_cons, List.filter_cons, ih]
    by_cases h : a.1 = k <;> simp [h]
theorem lk_dr (m : List (Int × V)) (k k' : Int) : lk (dr m k) k' = if k' = k then none else lk m k' := by
  unfold lk dr
  induction m with
  | nil => simp
  | cons a r ih =>
    rw [List.filter_cons]
    by_cases h : a.1 = k
    · rw [if_neg (by simp [h]), ih]
      by_cases h2 : k' = k
      · rw [if_pos h2, if_pos h2]
      · rw [if_neg h2, if_neg h2, List.find?_cons, decide_eq_false (by rw [h]; exact fun z => h2 z.symm)]
    · rw [if_pos (by simp [h]), List.find?_cons]
      by_cases h3 : a.1 = k'
      · rw [decide_eq_true h3, if_neg (by rw [← h3]; exact h), List.find?_cons, decide_eq_true h3]
      · rw [decide_eq_false h3]
        rw [ih, List.find?_cons, decide_eq_false h3]
theorem ddelI {a : Addr} {m : List (Int × V)} {k : Int} (h : H a = some (DI m)) (e : (lk m k).isSome = true) (q : D.nx σ (upd H a (DI (dr m k)))) : DlG D σ (.ref a) (.int k) H :=
  ⟨a, _, Sum.inl k, rfl, h, rfl, by rw [valV_di]; exact e, by rw [dropK_di]; exact q⟩
end Rd

set_option Elab.async false
set_option linter.all false
set_option maxRecDepth 100000
set_option maxHeartbeats 4000000
/-! # An error of the program's own: its maker calls that of ValueError with a text, then keeps one value -/
namespace PySem
namespace Errs
open PySem.W PySem.Calls PyProof.Rows PySem.HandSPX
/-! ### the text of the maker -/
def eA (fld : Str) (p1 p2 : Pos) : Arguments :=
  { posonlyargs := [], args := [⟨"self", none, p1⟩, ⟨fld, none, p2⟩], vararg := none, kwonlyargs := [], kw_defaults := [], kwarg := none, defaults := [] }
def eB (fld : Str) (parts : List Expr) (mp : Pos) (q1 q2 q3 q4 q5 q6 q7 q8 q9 : Pos) : List Stmt :=
  [.Expr (.Call (.Attribute (.Call (.Name "super" q1) [] [] q2) "__init__" q3) [.JoinedStr parts mp] [] q4) q5,
   .Assign [.Attribute (.Name "self" q6) fld q7] (.Name fld q8) q9]
def eS (fld : Str) (ex : List (Str × NameKind)) : Scope :=
  { kind := .function, names := [(PySem.Str.ofString "self", .local), (fld, .local), (PySem.Str.ofString "__class__", .free), (PySem.Str.ofString "super", .globalImplicit)] ++ ex, isGenerator := false, isCoroutine := false, more := [] }
/-- all is kept but the slots of the frames at fs -/
structure KeepF (fs : List Addr) (h h' : Heap) : Prop where
  keep : ∀ b o, b ∉ fs → h.get? b = some o → h'.get? b = some o
  slot : ∀ b o, h.get? b = some o → ∃ sl, h'.get? b = some { o with slots := sl }
theorem KeepF.of {fs : List Addr} {h h' : Heap} (k : ∀ b o, h.get? b = some o → h'.get? b = some o) : KeepF fs h h' := ⟨fun b o _ e => k b o e, fun b o e => ⟨o.slots, k b o e⟩⟩
theorem KeepF.of_un {fs : List Addr} {h h' : Heap} {H' : L2.Hp} (u : L2.Un fs [] (fun _ => none) H' h h') : KeepF fs h h' :=
  ⟨fun b o n e => u.keep b o e rfl n (by simp), fun b o e => u.any e rfl (by simp)⟩
/-- the message comes to some text; what stood is kept -/
def MsgOk (P : Program) (w : World) (K : Frag) (mg : Str → Option Value) (base : Heap) (lv : Nat) (ex : List (Str × NameKind)) (parts : List Expr) (mp : Pos) (fld : Str) (v : Value) : Prop :=
  ∀ (A : Around) (outer : List Env) (E : Value → Shared → Prop) (s : Shared) (env : Env) (m : Str → Option Value) (Q : Value → Shared → Prop),
    env.scope = eS fld ex → env.globals = mainGlobals → env.builtins = builtinsNs → L2.Room lv A → L2.Env0 P w K mg base A outer s (fun _ => none) →
    s.heap.Ns env.locals m → m fld = some v → (∀ u s', s'.os = s.os → AllBare s'.gens → KeepF (L2.frs outer) s.heap s'.heap → Q u s') →
    wpAny (model P w) A (eval (.JoinedStr parts mp) env) Q E s
def SupEq (parts : List Expr) (mp q1 q2 q3 q4 : Pos) : Prop :=
  ∀ env : Env, ∃ pl : Sem Bool, eval (.Call (.Attribute (.Call (.Name "super" q1) [] [] q2) "__init__" q3) [.JoinedStr parts mp] [] q4) env = (do
    let ov ← attributeBase (.Call (.Name "super" q1) [] [] q2) "__init__" env (eval (.Call (.Name "super" q1) [] [] q2) env)
    standAt q3.atName
    let __x ← holding [ov] (getMethod ov "__init__" pl)
    match __x with
    | (f, first) => callWith q4 f first (backTo q4 (starEach [.JoinedStr parts mp] env)) [])
/-- what the written part says of the class at C and of its maker at fI -/
structure ErrTxt (P : Program) (K : Frag) (mg : Str → Option Value) (nm fld : Str) (ex : List (Str × NameKind)) (parts : List Expr) (mp : Pos) (C fI : Addr) : Prop where
  gC : mg nm = some (.ref C)
  noSuper : mg "super" = none
  noTop : (List.lookup (PySem.Str.ofString "super") P.main.scope.names).isSome = false
  cls : ∃ nm q N bs bm sn sub ab col dd k0 k1 k2 k3 k5, K.lookup C = some (excClassObj nm q C N bs bm true sn sub ab col dd k0 k1 k2 k3 k5 "ValueError.__new__") ∧ refsVE bm = true
  ini : excInitIn K C veTail "ValueError.__new__" = true
  sup : ks_superIn K C C "__init__" = some (some (.builtin "ValueError.__init__"))
  subV : subIn K (.ref C) (.type "ValueError") = some true
  mroS : mroIn K C (.ref C) = some true
  third : nsIn K cStatics "thirdparty.any" = some none
  sa : findIn K (.ref C) "__setattr__" = some (some (.builtin "object.__setattr__"))
  ga : findIn K (.ref C) "__getattribute__" = some (some (.builtin "BaseException.__getattribute__"))
  gg : findIn K (.ref C) "__getattr__" = some none
  noN : findIn K (.ref C) fld = some none
  iC : findIn K (.ref C) "__init__" = some (some (.ref fI))
  tC : typeIn K (.ref fI) = some (.type "function")
  kC : keepIn K (.ref C) = true
  exC : subIn K (.ref C) (.type "BaseException") = some true
  tyC : typeIn K (.ref C) = some (.type "type")
  hdC : hasDictIn K C = true
  te : exmOne K (.ref C) (.ref C) = some true
  fn : ∃ (oc : Value) (od : Option Addr) (doc pm : Value) (an : Option Addr) (ct : Value) (osl : Array (Option Value)) (qual : Str) (cda cc : Addr)
      (ccl : Value) (cdd : Option Addr) (ccs : Array (Option Value)) (vs : Array Value) (tq tf : Tok) (file : Str) (cl : Value) (cld : Option Addr) (csl : Array (Option Value))
      (p1 p2 q1 q2 q3 q4 q5 q6 q7 q8 q9 : Pos), SupEq parts mp q1 q2 q3 q4 ∧
    K.lookup fI = some ⟨oc, od, .func (ksFn "__init__" qual (eA fld p1 p2) (eB fld parts mp q1 q2 q3 q4 q5 q6 q7 q8 q9) (eS fld ex) .none .none doc pm an (.ref cda) ct cc), osl⟩ ∧
    K.lookup cda = some ⟨ccl, cdd, .fields vs, ccs⟩ ∧ vs[1]? = some (.str qual tq) ∧ vs[2]? = some (.str file tf) ∧ (P.main.file == file) = true ∧
    K.lookup cc = some ⟨cl, cld, .cell (some (.ref C)), csl⟩
/-- the heap without the object at x -/
def without (h : Heap) (x : Addr) : Heap := { h with objs := h.objs.setIfInBounds x { cls := .none, data := .freed } }
theorem without_size (h : Heap) (x : Addr) : (without h x).objs.size = h.objs.size := by simp [without]
theorem without_at (h : Heap) (x : Addr) : (without h x).get? x = none := by
  unfold without Heap.get?
  by_cases e : x < h.objs.size
  · simp [Array.getElem?_setIfInBounds, e]
  · simp [Array.getElem?_setIfInBounds, e]
theorem without_ne (h : Heap) (x b : Addr) (hb : b ≠ x) : (without h x).get? b = h.get? b := by
  unfold without Heap.get?
  simp [Array.getElem?_setIfInBounds, Ne.symm hb]
/-- the heap below L without the object at x -/
def cutH (h : Heap) (L x : Addr) : Heap := { h with objs := (h.objs.extract 0 L).setIfInBounds x { cls := .none, data := .freed } }
theorem cut_size (h : Heap) (L x : Addr) : (cutH h L x).objs.size ≤ L := by simp [cutH]; omega
theorem cut_at (h : Heap) (L x : Addr) : (cutH h L x).get? x = none := by
  unfold cutH Heap.get?
  by_cases e : x < (h.objs.extract 0 L).size
  · rw [Array.getElem?_setIfInBounds_self_of_lt e]
  · have z : ((h.objs.extract 0 L).setIfInBounds x { cls := .none, data := .freed })[x]? = none := by
      rw [Array.getElem?_eq_none_iff]; simp at e ⊢; omega
    rw [z]
theorem cut_big (h : Heap) (L x b : Addr) (hb : L ≤ b) : (cutH h L x).get? b = none := Heap.get?_none_of_le (Nat.le_trans (cut_size h L x) hb)
theorem cut_lt (h : Heap) (L x b : Nat) (hb : b < L) (hx : b ≠ x) : (cutH h L x).get? b = h.get? b := by
  unfold cutH Heap.get?
  show (match ((h.objs.extract 0 L).setIfInBounds x { cls := .none, data := .freed })[b]? with | some ⟨_, _, .freed, _⟩ => none | o => o) = _
  rw [Array.getElem?_setIfInBounds_ne (Ne.symm hx)]
  have z : (h.objs.extract 0 L)[b]? = h.objs[b]? := by
    rw [Array.getElem?_extract]
    by_cases q : b < h.objs.size
    · rw [if_pos (by omega)]; simp
    · rw [if_neg (by omega)]
      exact (Array.getElem?_eq_none_iff.mpr (by omega)).symm
  rw [z]
  rfl
/-- what the maker leaves of a fresh exception at x; fs: the callers' frames -/
structure InitEnd (fs : List Addr) (fld : Str) (h h' : Heap) (x C dx : Addr) (v : Value) : Prop where
  keep : ∀ b o, b ≠ x → b ∉ fs → h.get? b = some o → h'.get? b = some o
  slot : ∀ b o, b ≠ x → h.get? b = some o → ∃ sl, h'.get? b = some { o with slots := sl }
  obj : ∃ t1 : Addr, h'.get? x = some { cls := .ref C, dict := some dx, data := .fields #[.ref t1, .none, .none, .none, .bool false, .none] }
  dbig : h.objs.size ≤ dx
  dne : dx ≠ x
  ns : h'.Ns1 dx (fun y => if y = fld then some v else none)
/-- a made error -/
structure OwnMade (fs : List Addr) (fld : Str) (h h' : Heap) (e C d : Addr) (v : Value) : Prop where
  keep : KeepF fs h h'
  new : h.objs.size ≤ e
  obj : ∃ oe vs, h'.get? e = some oe ∧ oe.cls = .ref C ∧ oe.dict = some d ∧ oe.data = .fields vs ∧ vs[1]? = some .none
  dbig : h.objs.size ≤ d
  dne : d ≠ e
  ns : h'.Ns1 d (fun y => if y = fld then some v else none)
theorem ld1 {M : Model} {A : Around} {E : Value → Shared → Prop} {s : Shared} {env : Env} {m : Str → Option Value} {x : Str} {pos : Pos} {v : Value} {Q : Value → Shared → Prop}
    (hn : s.heap.Ns env.locals m) (hv : m x = some v) (h : Q v s) (hk : env.scope.kind = .function) (hl : env.kindOf x = some .local) (hd : (x == ("__debug__" : Str)) = false) :
    wpAny M A (eval (.Name x pos) env) Q E s := wpAny_Name (wpAny_loadName_local hk hl hn hv h) hd
/-- the facts of the field's name -/
structure FldOk (fld : Str) (ex : List (Str × NameKind)) (parts : List Expr) (mp : Pos) : Prop where
  lkF : List.lookup fld (eS fld ex).names = some .local
  lkS : List.lookup ("self" : Str) (eS fld ex).names = some .local
  lkC : List.lookup ("__class__" : Str) (eS fld ex).names = some .free
  lkU : List.lookup ("super" : Str) (eS fld ex).names = some .globalImplicit
  dbg : (fld == ("__debug__" : Str)) = false
  noc : ∀ y ∈ (eS fld ex).names, y.2 ≠ .cell
  bf : ∀ x v : Value, List.lookup fld [(("self" : Str), x), (fld, v)].reverse = some v
  bs : ∀ x v : Value, List.lookup ("self" : Str) [(("self" : Str), x), (fld, v)].reverse = some x
  star : ∀ env : Env, starEach [.JoinedStr parts mp] env = (false, eval (.JoinedStr parts mp) env) :: starEach [] env
  bnd : ∀ (s : Shared) (x v : Value) (q : Str) (p1 p2 : Pos) (b : List Stmt) (doc pm cd ct : Value) (an : Option Addr) (cc : Addr),
    BindsTo s (ksFn "__init__" q (eA fld p1 p2) b (eS fld ex) .none .none doc pm an cd ct cc) ⟨[x, v], []⟩ [(("self" : Str), x), (fld, v)]
theorem env0_none {P : Program} {w : World} {K : Frag} {mg : Str → Option Value} {base : Heap} {A : Around} {outer : List Env} {s : Shared} {H : L2.Hp} (e : L2.Env0 P w K mg base A outer s H) :
    L2.Env0 P w K mg base A outer s (fun _ => none) :=
  ⟨e.frames, e.mod, fun b o q => ⟨(e.bs b o q).1, rfl⟩, e.bsz, e.funs, fun _ _ => rfl, fun a o q => (by cases q), e.bare⟩
section
variable {prog : Program} {w : World} {A : Around} {R : Result → Shared → Prop} {s : Shared} {K : Frag} {mg : Str → Option Value} {base : Heap} {lv : Nat} {outer : List Env} {nm fld : Str} {ex : List (Str × NameKind)} {parts : List Expr} {mp : Pos} {C fI : Addr}
theorem err_init (T : ErrTxt prog K mg nm fld ex parts mp C fI) (G : FldOk fld ex parts mp) {x t0 : Addr} {v : Value} (M : MsgOk prog w K mg base lv ex parts mp fld v)
    (e0 : L2.Env0 prog w K mg base A outer s (fun _ => none)) (hx : s.heap.get? x = some (excO C t0)) (hnx : K.lookup x = none) (hbx : base.get? x = none) (hr : L2.Room (lv + 1) A)
    (hq : ∀ s' dx, s'.os = s.os → AllBare s'.gens → InitEnd (L2.frs outer) fld s.heap s'.heap x C dx v → R (.ok (.ret .none)) s') :
    codeAny (model prog w) A (.call (.ref fI) ⟨[.ref x, v], []⟩) R s := by
  have X : K.In s.heap := e0.mod.kin.keeps fun b o e => (e0.bs b o e).1
  have hlim : s.heap.NoLimit := e0.mod.nolimit.keeps fun b o e => (e0.bs b o e).1
  have hg : s.heap.Ns mainGlobals mg := e0.mod.glob.keeps fun b o e => (e0.bs b o e).1
  obtain ⟨mb, hb0, hmb0⟩ := e0.mod.blt
  have hb : s.heap.Ns builtinsNs mb := hb0.keeps fun b o e => (e0.bs b o e).1
  have hmb : mb "super" = some (.type "super") := hmb0 _ (by decide)
  obtain ⟨oc, od, doc, pm, an, ct, osl, qual, cda, cc, ccl, cdd, ccs, vs, tq, tf, file, cl, cld, csl, p1, p2, q1, q2, q3, q4, q5, q6, q7, q8, q9, hev, ho, hcd, hvq, hvf, hfile, hcell⟩ := T.fn
  obtain ⟨nm, q, N, bs, bm, sn, sub, ab, col, dd, k0, k1, k2, k3, k5, hC, hbm⟩ := T.cls
  have hcl : clsIn K C = some { name := nm, bases := bs, mro := .ref C :: bm, ns := N, qualname := q, hasDict := true, slotNames := sn, subclasses := sub, abstract := ab, collection := col, hasDel := false } := by unfold clsIn; rw [hC] <;> rfl
  refine ks_codeAny_call_defAt (binds := [("self", .ref x), (fld, v)]) hr.depth (X _ _ ho) rfl hlim ⟨cda, _, vs, tq, rfl, X _ _ hcd, rfl, hvq⟩ rfl (G.bnd _ _ _ _ _ _ _ _ _ _ _ _ _) G.noc ?_ ?_ rfl rfl rfl
  · intro y hy
    simp only [List.mem_cons, List.not_mem_nil, or_false] at hy
    rcases hy with rfl | rfl
    · exact G.lkS
    · exact G.lkF
  intro h₁ hn k
  have X₁ : K.In h₁ := X.keeps k
  have hx₁ := k _ _ hx
  have hxL : x < s.heap.objs.size := Heap.lt_size hx
  have X₀ : K.In (without s.heap x) := fun a o e => by
    have ne : a ≠ x := fun z => by rw [z, hnx] at e; cases e
    rw [without_ne _ _ _ ne]; exact X a o e
  obtain ⟨env, henv⟩ : ∃ env, env = callEnv (ksFn "__init__" qual (eA fld p1 p2) (eB fld parts mp q1 q2 q3 q4 q5 q6 q7 q8 q9) (eS fld ex) .none .none doc pm an (.ref cda) ct cc) s.heap.objs.size fI := ⟨_, rfl⟩
  obtain ⟨pl, hpl⟩ := hev (callEnv (ksFn "__init__" qual (eA fld p1 p2) (eB fld parts mp q1 q2 q3 q4 q5 q6 q7 q8 q9) (eS fld ex) .none .none doc pm an (.ref cda) ct cc) s.heap.objs.size fI)
  refine ks_wpAt_execs_cons (ks_wpAt_Expr_any (ks_wpAt_MethodCall (he := hpl) (ks_wpAt_super_base G.lkU G.lkC (by decide) (f := fI) rfl (k _ _ (X _ _ ho)) rfl rfl rfl (k _ _ (X _ _ hcd)) rfl hvf hfile T.noTop ?_)))
  refine ks_loadName_global rfl G.lkU (loadGlobal_builtin (hg.keeps k) T.noSuper (hb.keeps k) hmb ⟨rfl, ?_⟩)
  refine wpAny_loadName_free rfl G.lkC (c := cc) (v := .ref C) rfl ⟨_, k _ _ (X _ _ hcell), rfl⟩ ?_
  refine wpAny_loadName_local rfl G.lkS hn (G.bs _ _) ?_
  refine ks_wpAny_isType_cls (k _ _ (X _ _ hC)) rfl ⟨rfl, ?_⟩
  refine ks_wpAny_call_super (k _ _ (X _ _ hC)) rfl hx₁ rfl (fun c e => by cases e) (looks_mroIn X₁ T.mroS) fun h₂ hso k₂ => ?_
  have zL : s.heap.objs.size < h₁.objs.size := hn.lt
  have F2 : Fr (without s.heap x) s.heap.objs.size h₂ (fun y => List.lookup y [(("self" : Str), Value.ref x), (fld, v)].reverse) :=
    ⟨hn.keeps k₂, fun b o e => by
      by_cases hb : b = x
      · rw [hb, without_at] at e; cases e
      · rw [without_ne _ _ _ hb] at e; exact k₂ _ _ (k _ _ e), by rw [without_size]; exact Nat.le_refl _⟩
  have N2 : News (without s.heap x) s.heap.objs.size h₂ [(h₁.objs.size, ks_superObj C x C), (x, excObj C t0 none .none)] := by
    intro p hp
    simp only [List.mem_cons, List.not_mem_nil, or_false] at hp
    rcases hp with rfl | rfl
    · refine ⟨hso, Nat.ne_of_gt zL, ?_⟩
      rw [without_ne _ _ _ (Nat.ne_of_gt (Nat.lt_trans hxL zL))]
      cases e : s.heap.get? h₁.objs.size with
      | none => rfl
      | some o => exact absurd (Heap.lt_size e) (Nat.not_lt.mpr (Nat.le_of_lt zL))
    · exact ⟨k₂ _ _ hx₁, Nat.ne_of_lt hxL, without_at _ _⟩
  refine kxs_method kxs_ValueError F2 X₀ N2 List.mem_cons_self (.of_exc0 N2 (List.mem_cons_of_mem _ List.mem_cons_self)) T.third T.sup T.subV (by decide) fun u h₃ F3 N3 lt3 => ?_
  refine kxs_callWith1 N3 List.mem_cons_self (spliced_more ?_ (G.star _)) (G.star _) rfl
  rw [← henv]
  have k3 : ∀ b o, b ≠ x → s.heap.get? b = some o → h₃.get? b = some o := fun b o hb e => F3.keep b o (by rw [without_ne _ _ _ hb]; exact e)
  have kb : ∀ b o, base.get? b = some o → h₃.get? b = some o := fun b o e => k3 b o (fun z => by rw [z, hbx] at e; cases e) (e0.bs b o e).1
  have fne : ∀ b ∈ L2.frs outer, b ≠ x := fun b hb z => by
    obtain ⟨_, o, ho', hf⟩ := e0.funs.mem (b := b) hb
    rw [z, hx] at ho'; cases ho'
    exact hf _ rfl
  have funs3 : h₃.FunFrames base outer := e0.funs.of_keeps fun b o e hf => by
    refine ⟨o, k3 b o (fun z => ?_) e, rfl⟩
    rw [z, hx] at e; cases e
    exact hf _ rfl
  have hL3 : base.get? s.heap.objs.size = none := Heap.get?_none_of_le e0.bsz
  have efr : env.frame = some s.heap.objs.size := by rw [henv] <;> rfl
  have elo : env.locals = s.heap.objs.size := by rw [henv] <;> rfl
  have ens : h₃.Ns env.locals (fun y => List.lookup y [(("self" : Str), Value.ref x), (fld, v)].reverse) := by rw [elo]; exact F3.ns
  have e3 : ∀ tk, L2.Env0 prog w K mg base (A.deeper env) (env :: outer) { s with heap := h₃, toks := tk } (fun _ => none) := fun tk =>
    ⟨Around.frames_deeper e0.frames, e0.mod, fun b o e => ⟨kb b o e, rfl⟩, Nat.le_trans e0.bsz (Nat.le_of_lt F3.ns.lt), .cons (by rw [henv]; intro z; cases z) efr (by rw [← elo]; exact ens) hL3 funs3, fun _ _ => rfl, fun a o q => (by cases q), e0.bare⟩
  refine M (A.deeper env) (env :: outer) _ _ env _ _ (by rw [henv] <;> rfl) (by rw [henv] <;> rfl) (by rw [henv] <;> rfl) (hr.deeper env) (e3 _) ens (G.bf _ _) fun um s4 os4 bare4 K4 => spliced_none ?_
  have efs : L2.frs (env :: outer) = s.heap.objs.size :: L2.frs outer := by unfold L2.frs; rw [List.filterMap_cons, efr]
  rw [efs] at K4
  obtain ⟨h4, g4, d4, t4, o4⟩ := s4
  obtain rfl : o4 = s.os := os4
  -- what stands beside the frames
  have nf : ∀ p ∈ (u, kxs_mw "ValueError.__init__" x) :: [(h₁.objs.size, ks_superObj C x C), (x, excObj C t0 none .none)], p.1 ∉ s.heap.objs.size :: L2.frs outer := by
    intro p hp z
    rcases List.mem_cons.mp z with z | z
    · exact (N3 p hp).2.1 z
    · obtain ⟨_, o, ho', hf⟩ := e0.funs.mem (b := p.1) z
      have lt := Heap.lt_size ho'
      simp only [List.mem_cons, List.not_mem_nil, or_false] at hp
      rcases hp with rfl | rfl | rfl
      · exact absurd (Nat.lt_trans (Nat.lt_trans lt zL) (lt3 _ List.mem_cons_self)) (Nat.lt_irrefl _)
      · exact absurd (Nat.lt_trans lt zL) (Nat.lt_irrefl _)
      · exact fne _ z rfl
  have F4 : Fr (cutH h4 s.heap.objs.size x) s.heap.objs.size h4 (fun y => List.lookup y [(("self" : Str), Value.ref x), (fld, v)].reverse) := by
    refine ⟨?_, fun b o e => ?_, cut_size _ _ _⟩
    · obtain ⟨o', es', ep', ho', r'⟩ := F3.ns
      obtain ⟨sl, z⟩ := K4.slot _ _ ho'
      exact ⟨_, es', ep', z, r'⟩
    · by_cases hb : b = x
      · rw [hb, cut_at] at e; cases e
      · by_cases hl : b < s.heap.objs.size
        · rw [cut_lt _ _ _ _ hl hb] at e; exact e
        · rw [cut_big _ _ _ _ (Nat.le_of_not_lt hl)] at e; cases e
  have N4 : News (cutH h4 s.heap.objs.size x) s.heap.objs.size h4 ((u, kxs_mw "ValueError.__init__" x) :: [(h₁.objs.size, ks_superObj C x C), (x, excObj C t0 none .none)]) := by
    intro p hp
    refine ⟨K4.keep _ _ (nf p hp) (N3 p hp).1, (N3 p hp).2.1, ?_⟩
    simp only [List.mem_cons, List.not_mem_nil, or_false] at hp
    rcases hp with rfl | rfl | rfl
    · exact cut_big _ _ _ _ (Nat.le_of_lt (Nat.lt_trans zL (lt3 _ List.mem_cons_self)))
    · exact cut_big _ _ _ _ (Nat.le_of_lt zL)
    · exact cut_at _ _ _
  have old4 : ∀ b o, b ≠ x → b ∉ L2.frs outer → s.heap.get? b = some o → h4.get? b = some o := fun b o hb hf e =>
    K4.keep b o (fun z => (List.mem_cons.mp z).elim (fun z => absurd (Heap.lt_size e) (by rw [z]; exact Nat.lt_irrefl _)) hf) (k3 b o hb e)
  have base4 : ∀ b o, base.get? b = some o → b ≠ x ∧ b < s.heap.objs.size ∧ h4.get? b = some o := fun b o e => by
    have hb : b ≠ x := fun z => by rw [z, hbx] at e; cases e
    have e' := (e0.bs b o e).1
    exact ⟨hb, Heap.lt_size e', old4 b o hb (fun z => by have := (e0.funs.mem (b := b) z).1; rw [e] at this; cases this) e'⟩
  have X4 : K.In (cutH h4 s.heap.objs.size x) := fun a o e => by
    obtain ⟨p, q, r⟩ := base4 a o (e0.mod.kin a o e)
    rw [cut_lt _ _ _ _ q p]; exact r
  refine ⟨kxs_at N4 List.mem_cons_self, ?_⟩
  refine kxs_call (bmB := veTail) (newId := "ValueError.__new__") (dv := none) (c2 := .none) (t := t0) F4 X4 N4 F.excBase_ValueError T.ini List.mem_cons_self (.tail ?_ (.tail ?_ (.head ?_))) ?_ fun t' h₅ F5 N5 lt5 => ?_
  · exact Nat.ne_of_gt (lt3 _ (List.mem_cons_of_mem _ List.mem_cons_self))
  · exact Nat.ne_of_gt (Nat.lt_trans hxL zL)
  · intro p hp; cases hp
  · rw [sizeLine_eq]; exact (by decide : 1 ≤ 16777216)
  rw [henv] at *
  refine wpAt_of_wpAny ?_
  have hx5 : h₅.get? x = some (excO C t') := (N5 (x, excObj C t' none .none) (by simp)).1
  have c5 : ∀ b o, b ≠ x → b < s.heap.objs.size → h4.get? b = some o → h₅.get? b = some o := fun b o hb hl e => F5.keep b o (by rw [cut_lt _ _ _ _ hl hb]; exact e)
  have k5 : ∀ b o, b ≠ x → b ∉ L2.frs outer → s.heap.get? b = some o → h₅.get? b = some o := fun b o hb hf e => c5 b o hb (Heap.lt_size e) (old4 b o hb hf e)
  have s5 : ∀ b o, b ≠ x → s.heap.get? b = some o → ∃ sl, h₅.get? b = some { o with slots := sl } := fun b o hb e => by
    obtain ⟨sl, z⟩ := K4.slot b o (k3 b o hb e)
    exact ⟨sl, c5 b _ hb (Heap.lt_size e) z⟩
  have X5 : K.In h₅ := fun a o e => by
    obtain ⟨p, q, r⟩ := base4 a o (e0.mod.kin a o e)
    exact c5 a o p q r
  refine wpAny_execs_cons (plainObj_wpAny_Assign_Attribute ?_)
  refine ld1 (v := v) F5.ns (G.bf _ _) (ld1 (v := .ref x) F5.ns (G.bs _ _) ?_ rfl G.lkS (by decide)) rfl G.lkF G.dbg
  refine set_plain X5 (ox := excO C t') (od := none) ⟨hx5, rfl, rfl, trivial⟩ T.sa ?_
  refine exc_osa X5 hx5 hcl (show refsVE (.ref C :: bm) = true from hbm) rfl T.noN (fun h₆ tk₆ dx k₆ dn dne hx₆ hn₆ => ?_)
  exact wpAny_execs_nil (hq _ dx rfl bare4 ⟨fun b o hb hf e => k₆ b o hb (k5 b o hb hf e), fun b o hb e => let ⟨sl, z⟩ := s5 b o hb e; ⟨sl, k₆ b _ hb z⟩, ⟨t', hx₆⟩, Nat.le_of_lt (Nat.lt_of_lt_of_le F5.ns.lt dn), dne, hn₆⟩)
theorem err_made (T : ErrTxt prog K mg nm fld ex parts mp C fI) (G : FldOk fld ex parts mp) {v : Value} (M : MsgOk prog w K mg base lv ex parts mp fld v)
    (e0 : L2.Env0 prog w K mg base A outer s (fun _ => none)) (hr : L2.Room (lv + 2) A)
    (hq : ∀ s' e d, s'.os = s.os → AllBare s'.gens → OwnMade (L2.frs outer) fld s.heap s'.heap e C d v → R (.ok (.ret (.ref e))) s') :
    codeAny (model prog w) A (.call (.ref C) ⟨[v], []⟩) R s := by
  obtain ⟨nm, q, N, bs, bm, sn, sub, ab, col, dd, k0, k1, k2, k3, k5, hC, hbm⟩ := T.cls
  obtain ⟨hp, g, dr, tk, os⟩ := s
  have X : K.In hp := e0.mod.kin.keeps fun b o e => (e0.bs b o e).1
  have k : ∀ b o, hp.get? b = some o → ((hp.push (kdv_tup [v])).push (excO C hp.objs.size)).get? b = some o := fun b o e => Heap.get?_push_of_some _ (Heap.get?_push_of_some _ e)
  have hget : ((hp.push (kdv_tup [v])).push (excO C hp.objs.size)).get? (hp.objs.size + 1) = some (excO C hp.objs.size) := by heap_get
  have hnx : K.lookup (hp.objs.size + 1) = none := by
    cases e : K.lookup (hp.objs.size + 1) with
    | none => rfl
    | some o =>
      have z : hp.get? (hp.objs.size + 1) = some o := X _ _ e
      exact absurd (Nat.lt_of_succ_lt (Heap.lt_size z)) (Nat.lt_irrefl _)
  have hbx : base.get? (hp.objs.size + 1) = none := Heap.get?_none_of_le (Nat.le_trans e0.bsz (Nat.le_succ _))
  have sz : ((hp.push (kdv_tup [v])).push (excO C hp.objs.size)).objs.size = hp.objs.size + 1 + 1 := by
    first
      | rfl
      | simp [Heap.size_push]
  refine call_own F.excBase_ValueError (fun X => refsVE_contains X bm hbm) (X _ _ hC) (looks_findIn X T.iC) (fun self => bind_fn X self T.tC) (by rw [sizeLine_eq]; exact (by decide : 1 ≤ 16777216)) ?_
  have e1 := e0.make C [v] []
  have e2 : L2.Env0 prog w K mg base (A.under (.builtin "type.__call__" ⟨.ref C :: [v], []⟩)) outer ⟨(hp.push (kdv_tup [v])).push (excO C hp.objs.size), g, dr, tk, os⟩ (fun _ => none) :=
    ⟨e1.frames, e1.mod, fun b o e => ⟨k b o (e1.bs b o e).1, rfl⟩, by show base.objs.size ≤ ((hp.push (kdv_tup [v])).push (excO C hp.objs.size)).objs.size; rw [sz]; exact Nat.le_trans e1.bsz (Nat.le_trans (Nat.le_succ _) (Nat.le_succ _)),
      e1.funs.of_keeps fun b o e _ => ⟨o, k b o e, rfl⟩, fun _ _ => rfl, fun a o q => (by cases q), e1.bare⟩
  refine err_init (s := ⟨(hp.push (kdv_tup [v])).push (excO C hp.objs.size), g, dr, tk, os⟩) T G M e2 hget hnx hbx (hr.make C [v] []) fun s' dx os' bare' ⟨k', s', ⟨t1, hx⟩, dn, dne, hns⟩ => ?_
  have z : hp.objs.size + 1 + 1 ≤ dx := by rw [← sz]; exact dn
  refine ⟨rfl, hq _ (hp.objs.size + 1) dx os' bare' ⟨⟨fun b o hf e => k' b o (Nat.ne_of_lt (Nat.lt_succ_of_lt (Heap.lt_size e))) hf (k b o e), fun b o e => s' b o (Nat.ne_of_lt (Nat.lt_succ_of_lt (Heap.lt_size e))) (k b o e)⟩, Nat.le_succ _, ⟨_, _, hx, rfl, rfl, rfl, rfl⟩, Nat.le_trans (Nat.le_trans (Nat.le_succ _) (Nat.le_succ _)) z, dne, hns⟩⟩
end
end Errs
end PySem

set_option Elab.async false
set_option linter.all false
set_option maxRecDepth 100000
set_option maxHeartbeats 4000000
namespace L2
open PySem PySem.Spec PyProof.Rows
theorem relO_fld {v : V} {v' : Value} (fld : Str) (r : RelV v v') (f : Str) : RelO (List.lookup f [(fld, v)]) (if f = fld then some v' else none) := by
  by_cases hw : f = fld
  · subst hw
    rw [if_pos rfl]
    have q : List.lookup f [(f, v)] = some v := by simp [List.lookup]
    rw [q]
    exact r
  · rw [if_neg hw]
    have qw : (f == fld) = false := by simpa using hw
    have q2 : List.lookup f [(fld, v)] = none := by simp [List.lookup, qw]
    rw [q2]
    trivial
/-- the message of this value is written, whatever stands for it -/
def MsgV (X : Cx) (lv : Nat) (ex : List (Str × NameKind)) (parts : List Expr) (mp : Pos) (fld : Str) (v : V) : Prop := ∀ u, RelV v u → PySem.Errs.MsgOk X.prog X.w X.K X.mg X.base lv ex parts mp fld u
section
variable {X : Cx} {nm fld : Str} {ex : List (Str × NameKind)} {parts : List Expr} {mp : Pos} {C fI : Addr} {lv : Nat}
/-- NAME(e) -/
def tMkErr (Mv : V → Prop) (fld : Str) (C : Addr) (ta : TA) : St → Hp → XK → Prop := fun σ H Q => ta σ H fun vs H1 => ∃ v, vs = [v] ∧ Mv v ∧ ∀ d, H1 d = none → Q (.ref C) (some d) (upd H1 d (.xd [(fld, v)]))
theorem pmk_err {a : Expr} {ta : TA} {p pos : Pos} {k : Nat} (T : PySem.Errs.ErrTxt X.prog X.K X.mg nm fld ex parts mp C fI) (G : PySem.Errs.FldOk fld ex parts mp) (hr : Room k X.A) (ha : PA X [a] ta) (hlv : lv + 2 ≤ k := by decide) (hg : Gl X nm := by rfl)
    (hdb : (nm == PySem.Str.ofString "__debug__") = false := by decide)
    (he : starEach (a :: []) X.env = (false, eval a X.env) :: starEach [] X.env := by rfl) (hpl : (backTo pos (starEach [] X.env)).any (·.1) = false := by rfl) :
    PMk X (.Call (.Name nm p) [a] [] pos) (tMkErr (MsgV X lv ex parts mp fld) fld C ta) := by
  intro pins s σ H Q I h
  refine wpAny_Call_Name_kw (ld_glob I hg T.gC ?_ hdb)
  refine PySem.W.callWith_K (h₀ := X.base) I.ok.mod.kin T.kC (thn (ha.run pos pins s σ H _ I h) fun us s1 hh => ?_) he hpl
  obtain ⟨vs, H1, I1, r1, v, ev, mv, q1⟩ := hh
  subst ev
  refine ⟨I1.kIn, ?_⟩
  cases r1 with
  | cons rv rn =>
    rename_i v' us'
    cases rn
    show wpAny _ _ (call (.ref C) [v']) _ _ _
    have e0 := PySem.Errs.env0_none I1.env0
    refine wpAny_call (PySem.Errs.err_made T G (mv v' rv) e0 (hr.mono hlv) fun s' e d os' bare' M => ?_)
    obtain ⟨hp, g, dr, tk, os⟩ := s1
    obtain ⟨h', g', dr', tk', os2⟩ := s'
    obtain rfl : os2 = os := os'
    show MkP X pins σ Q (.ref e) ⟨h', g', dr', tk', os2⟩
    obtain ⟨oe, fv, hoe, hc, hd, hdat, h1⟩ := M.obj
    have hns := M.ns
    have hnew : hp.objs.size ≤ e := M.new
    have hdbig : hp.objs.size ≤ d := M.dbig
    have fe : H1 e = none := I1.hok.fresh hnew
    have fd : H1 d = none := I1.hok.fresh hdbig
    obtain ⟨G', g1, g2⟩ := restrict h' fun b => decide (b ≠ e)
    have gk : ∀ b, b ≠ e → G'.get? b = h'.get? b := fun b hb => g1 b (decide_eq_true hb)
    have ge : G'.get? e = none := g2 e (by simp)
    have ne : ∀ b o, hp.get? b = some o → b ≠ e := fun b o q => Nat.ne_of_lt (Nat.lt_of_lt_of_le (Heap.lt_size q) hnew)
    have nd : ∀ b o, hp.get? b = some o → b ≠ d := fun b o q => Nat.ne_of_lt (Nat.lt_of_lt_of_le (Heap.lt_size q) hdbig)
    have k1 : ∀ b o, b ∉ frs X.stack → hp.get? b = some o → G'.get? b = some o := fun b o hf q => (gk b (ne b o q)).trans (M.keep.keep b o hf q)
    have k2 : ∀ b o, hp.get? b = some o → ∃ sl, G'.get? b = some { o with slots := sl } := fun b o q => let ⟨sl, z⟩ := M.keep.slot b o q; ⟨sl, (gk b (ne b o q)).trans z⟩
    have ob : ObjOk X.prog X.w (upd H1 d (.xd [(fld, v)])) G' d (.xd [(fld, v)]) :=
      ⟨_, hns.at (fun o q => (gk d M.dne).trans q), fun f => relO_fld fld rv f⟩
    have tne : ∀ b o, H1 b = some o → b ≠ d := fun b o q z => by rw [z, fd] at q; cases q
    have un : Un (frs X.stack) [] H1 (upd H1 d (.xd [(fld, v)])) hp G' :=
      ⟨fun b o q _ hf _ => k1 b o hf q, fun b o q _ _ _ => k2 b o q, fun b o q n _ => by rw [upd_ne (nd b o q)]; exact n, fun b o q _ => let ⟨sl, z⟩ := k2 b o q; ⟨_, z⟩,
        fun b xs q => by rw [upd_ne (tne b _ q)]; exact q, fun b u xs q => by rw [upd_ne (tne b _ q)]; exact q, fun b ps q => ⟨#[], by rw [upd_ne (tne b _ q), q]; simp⟩⟩
    have free := I1.stkFree
    have hok : HOk X.prog X.w (upd H1 d (.xd [(fld, v)])) G' := fun b u q => by
      by_cases hb : b = d
      · subst hb; rw [upd_same] at q; cases q; exact ob
      · rw [upd_ne hb] at q
        refine (I1.hok b u q).stay (fun c o hc z => k1 c o (fun hf => ?_) z) (fun c z => by rw [upd_ne (tne c _ z)]; exact z) fun c xs z => by rw [upd_ne (tne c _ z)]; exact z
        have fc := free c hf
        rcases hc with rfl | hc
        · rw [q] at fc; cases fc
        · rw [hc] at fc; cases fc
    have J : Inv X pins σ (upd H1 d (.xd [(fld, v)])) ⟨G', g', dr', tk', os2⟩ := I1.call (g' := g') (t' := tk') (d' := dr') (ch := []) un hok bare' (fun _ z => nomatch z)
    refine ⟨e, oe, fv, ⟨G', g', dr', tk', os2⟩, _, .ref C, some d, rfl, J, fun b o q => ?_, ge, hoe, ⟨hc, hd⟩, hdat, h1, ?_, rfl, bare', raises_own T.exC T.tyC, q1 d fd⟩
    · by_cases hb : b = e
      · have q' : G'.get? b = some o := q
        rw [hb, ge] at q'; cases q'
      · exact (gk b hb).symm.trans q
    · rw [upd_ne (Ne.symm M.dne)]
      exact fe
/-- raise NAME(e) -/
def tRaiseErr (Mv : V → Prop) (fld : Str) (C : Addr) (W : WX) (ta : TA) : TS := fun _ σ H => tMkErr Mv fld C ta σ H fun cls d H' => W cls d σ H'
theorem ps_raiseErr {a : Expr} {ta : TA} {W : WX} {p pos pos2 : Pos} {k : Nat} (hc : X.calm = true) (T : PySem.Errs.ErrTxt X.prog X.K X.mg nm fld ex parts mp C fI) (G : PySem.Errs.FldOk fld ex parts mp) (hr : Room k X.A) (tk : Takes X W) (ha : PA X [a] ta) (hlv : lv + 2 ≤ k := by decide) (hg : Gl X nm := by rfl)
    (hdb : (nm == PySem.Str.ofString "__debug__") = false := by decide)
    (he : starEach (a :: []) X.env = (false, eval a X.env) :: starEach [] X.env := by rfl) (hpl : (backTo pos (starEach [] X.env)).any (·.1) = false := by rfl) :
    PS X (.Raise (some (.Call (.Name nm p) [a] [] pos)) none pos2) (tRaiseErr (MsgV X lv ex parts mp fld) fld C W ta) := ps_raise hc tk (pmk_err T G hr ha hlv hg hdb he hpl)
/-! ### the messages -/
/-- decimal(e) in a message -/
theorem dec_part {f : Addr} {fd : FuncData} {sp : Sp} {v : V} {u : Value} {p1 p2 p3 : Pos} (F : FnOk X.prog X.w X.K X.mg X.base CX0 lv f fd ["n"] sp) (gf : X.mg "decimal" = some (.ref f)) (kp : PySem.W.keepIn X.K (.ref f) = true) (hb : Binds X.K fd ["n"] [])
    (hsp : ∀ (Q : VK) (E : XK), (∀ z H', z.length ≤ 1000000 → Q (.str z) H') → sp [v] (fun _ => none) Q E) (r : RelV v u)
    {A : Around} {outer : List Env} {E : Value → Shared → Prop} {s : Shared} {env : Env} {m : Str → Option Value} {Q : Value → Shared → Prop}
    (hs : env.scope = PySem.Errs.eS fld [("decimal", .globalImplicit)]) (hgl : env.globals = mainGlobals) (hr : Room lv A) (e0 : Env0 X.prog X.w X.K X.mg X.base A outer s (fun _ => none))
    (hn : s.heap.Ns env.locals m) (hm : m fld = some u) (h1 : List.lookup fld (PySem.Errs.eS fld [("decimal", .globalImplicit)]).names = some .local) (h2 : List.lookup ("decimal" : Str) (PySem.Errs.eS fld [("decimal", .globalImplicit)]).names = some .globalImplicit)
    (hd : (fld == ("__debug__" : Str)) = false) (hst : starEach [.Name fld p2] env = (false, eval (.Name fld p2) env) :: starEach [] env) (hpl : (backTo p3 (starEach [] env)).any (·.1) = false)
    (h : ∀ z tk s', z.length ≤ 1000000 → s'.os = s.os → AllBare s'.gens → PySem.Errs.KeepF (frs outer) s.heap s'.heap → Q (.str z tk) s') :
    wpAny (model X.prog X.w) A (eval (.Call (.Name "decimal" p1) [.Name fld p2] [] p3) env) Q E s := by
  have kin : X.K.In s.heap := e0.mod.kin.keeps fun b o e => (e0.bs b o e).1
  have hkd : env.scope.kind = .function := by rw [hs] <;> rfl
  refine wpAny_Call_Name_kw (Calls.Name_function_global hkd (by show env.scope.names.lookup _ = _; rw [hs]; exact h2) (Calls.loadGlobal_global (by rw [hgl]; exact e0.mod.glob.keeps fun b o e => (e0.bs b o e).1) gf ?_) (by decide))
  refine PySem.W.callWith_K (h₀ := X.base) e0.mod.kin kp (PyProof.Rows.spliced_more ?_ hst) hst hpl
  refine PySem.Errs.ld1 hn hm ?_ hkd (by show env.scope.names.lookup _ = _; rw [hs]; exact h1) hd
  refine PyProof.Rows.spliced_none ⟨kin, ?_⟩
  have b0 := hb s [u] kin rfl
  refine wpAny_call (codeAny_mono (F.run A outer s _ ⟨[u], []⟩ [u] [v] _ (fun _ _ _ => False) hr e0 b0 (.cons r .nil) (hsp (fun x H' => ∃ z, x = .str z ∧ z.length ≤ 1000000) _ fun z H' hz => ⟨z, rfl, hz⟩)) fun res s' got => ?_)
  match res, got with
  | .error e, got => exact False.elim got
  | .ok (.ret y), got =>
    obtain ⟨x, H', os', bare', un, hok, rv, z, rfl, hz⟩ := got
    obtain ⟨tk, rfl⟩ := rv
    exact h z tk s' hz os' bare' (PySem.Errs.KeepF.of_un un)
  | .ok .next, got => cases got
  | .ok .brk, got => cases got
  | .ok .cont, got => cases got
theorem msg_dec2 {f : Addr} {fd : FuncData} {sp : Sp} {v : V} {a : Str} {k1 : Nat} {p1 p2 p3 p4 p5 mp : Pos} (F : FnOk X.prog X.w X.K X.mg X.base CX0 lv f fd ["n"] sp) (gf : X.mg "decimal" = some (.ref f)) (kp : PySem.W.keepIn X.K (.ref f) = true) (hb : Binds X.K fd ["n"] [])
    (hsp : ∀ (Q : VK) (E : XK), (∀ z H', z.length ≤ 1000000 → Q (.str z) H') → sp [v] (fun _ => none) Q E)
    (h1 : List.lookup fld (PySem.Errs.eS fld [("decimal", .globalImplicit)]).names = some .local) (h2 : List.lookup ("decimal" : Str) (PySem.Errs.eS fld [("decimal", .globalImplicit)]).names = some .globalImplicit) (hd : (fld == ("__debug__" : Str)) = false)
    (hst : ∀ env : Env, starEach [.Name fld p2] env = (false, eval (.Name fld p2) env) :: starEach [] env) (hl : a.length ≤ 100) :
    MsgV X lv [("decimal", .globalImplicit)] [.Constant (.str a) k1 p4, .FormattedValue (.Call (.Name "decimal" p1) [.Name fld p2] [] p3) (-1) none p5] mp fld v := by
  intro u r A outer E s env m Q hs hgl hbl hr e0 hn hm hQ
  refine JoinedStr_many (joinParts_cons ?_)
  refine wpAny_Constant_str ?_
  have l0 : Str.empty.length = 0 := rfl
  refine ⟨by rw [sizeLine_eq, Str.length_append]; omega, ?_⟩
  refine joinParts_cons (FormattedValue_plain ?_)
  refine dec_part F gf kp hb hsp r hs hgl hr (e0 := ⟨e0.frames, e0.mod, e0.bs, e0.bsz, e0.funs, e0.frf, e0.hok, e0.bare⟩) hn hm h1 h2 hd (hst _) rfl fun z tk s' hz os' bare' K' => ?_
  refine formatField_str (fun t' tk' => ?_) (by rw [sizeLine_eq]; omega)
  refine ⟨by rw [sizeLine_eq, Str.length_append, Str.length_append]; omega, ?_⟩
  refine joinParts_nilE (joinParts_nil ?_ ?_)
  · exact hQ _ _ os' bare' K'
  · rw [sizeLine_eq, Str.length_append, Str.length_append]; omega
theorem msg_dec3 {f : Addr} {fd : FuncData} {sp : Sp} {v : V} {a b : Str} {k1 k2 : Nat} {p1 p2 p3 p4 p5 p6 mp : Pos} (F : FnOk X.prog X.w X.K X.mg X.base CX0 lv f fd ["n"] sp) (gf : X.mg "decimal" = some (.ref f)) (kp : PySem.W.keepIn X.K (.ref f) = true) (hb : Binds X.K fd ["n"] [])
    (hsp : ∀ (Q : VK) (E : XK), (∀ z H', z.length ≤ 1000000 → Q (.str z) H') → sp [v] (fun _ => none) Q E)
    (h1 : List.lookup fld (PySem.Errs.eS fld [("decimal", .globalImplicit)]).names = some .local) (h2 : List.lookup ("decimal" : Str) (PySem.Errs.eS fld [("decimal", .globalImplicit)]).names = some .globalImplicit) (hd : (fld == ("__debug__" : Str)) = false)
    (hst : ∀ env : Env, starEach [.Name fld p2] env = (false, eval (.Name fld p2) env) :: starEach [] env) (hl : a.length ≤ 100 ∧ b.length ≤ 100) :
    MsgV X lv [("decimal", .globalImplicit)] [.Constant (.str a) k1 p4, .FormattedValue (.Call (.Name "decimal" p1) [.Name fld p2] [] p3) (-1) none p5, .Constant (.str b) k2 p6] mp fld v := by
  intro u r A outer E s env m Q hs hgl hbl hr e0 hn hm hQ
  refine JoinedStr_many (joinParts_cons ?_)
  refine wpAny_Constant_str ?_
  have l0 : Str.empty.length = 0 := rfl
  refine ⟨by rw [sizeLine_eq, Str.length_append]; omega, ?_⟩
  refine joinParts_cons (FormattedValue_plain ?_)
  refine dec_part F gf kp hb hsp r hs hgl hr (e0 := ⟨e0.frames, e0.mod, e0.bs, e0.bsz, e0.funs, e0.frf, e0.hok, e0.bare⟩) hn hm h1 h2 hd (hst _) rfl fun z tk s' hz os' bare' K' => ?_
  refine formatField_str (fun t' tk' => ?_) (by rw [sizeLine_eq]; omega)
  refine ⟨by rw [sizeLine_eq, Str.length_append, Str.length_append]; omega, ?_⟩
  refine joinParts_consE (joinParts_cons ?_)
  refine wpAny_Constant_str ?_
  refine ⟨by rw [sizeLine_eq, Str.length_append, Str.length_append, Str.length_append]; omega, ?_⟩
  refine joinParts_nilE (joinParts_nil ?_ ?_)
  · exact hQ _ _ os' bare' K'
  · rw [sizeLine_eq, Str.length_append, Str.length_append, Str.length_append]; omega
theorem msg_str2 {a : Str} {k1 : Nat} {p1 p2 p3 mp : Pos} {z : Str} (h1 : List.lookup fld (PySem.Errs.eS fld []).names = some .local) (hd : (fld == ("__debug__" : Str)) = false)
    (hl : a.length ≤ 100) (ht : z.length ≤ 10000) :
    MsgV X lv [] [.Constant (.str a) k1 p1, .FormattedValue (.Name fld p2) (-1) none p3] mp fld (.str z) := by
  intro u r
  obtain ⟨tk, rfl⟩ := r
  intro A outer E s env m Q hs hgl hbl hr e0 hn hm hQ
  refine JoinedStr_many (joinParts_cons ?_)
  refine wpAny_Constant_str ?_
  have l0 : Str.empty.length = 0 := rfl
  refine ⟨by rw [sizeLine_eq, Str.length_append]; omega, ?_⟩
  refine joinParts_cons (FormattedValue_plain ?_)
  refine PySem.Errs.ld1 hn hm ?_ (by rw [hs] <;> rfl) (by show env.scope.names.lookup _ = _; rw [hs]; exact h1) hd
  refine formatField_str (fun t' tk' => ?_) (by rw [sizeLine_eq]; omega)
  refine ⟨by rw [sizeLine_eq, Str.length_append, Str.length_append]; omega, ?_⟩
  refine joinParts_nilE (joinParts_nil ?_ ?_)
  · exact hQ _ _ rfl e0.bare (.of fun _ _ e => e)
  · rw [sizeLine_eq, Str.length_append, Str.length_append]; omega
/-! ### isinstance(e, CLASS) of a caught error that keeps values -/
structure ExcD (K : PySem.W.Frag) (D : Addr) : Prop where
  cl : (PySem.W.clsIn K D).isSome = true
  ga : PySem.W.findIn K (.ref D) "__getattribute__" = some (some (.builtin "BaseException.__getattribute__"))
  gg : PySem.W.findIn K (.ref D) "__getattr__" = some none
  ex : PySem.W.subIn K (.ref D) (.type "BaseException") = some true
  cc : PySem.W.findIn K (.ref D) "__class__" = some (some (.builtin "object.__class__"))
  sp : PySem.W.specialIn K (.builtin "object.__class__") "__get__" = some (some (.builtin "getset_descriptor.__get__"))
  tk : PySem.W.takesIn K (.builtin "object.__class__") = some true
  mo : PySem.W.mroIn K D (.type "object") = some true
def rIsD (K : PySem.W.Frag) (D : Addr) (a : Addr) (cls : Value) (d : Option Addr) : List V → Hp → VK → Prop := fun xs H Q =>
  ∃ c cv b dd fl, xs = [.ref a, c] ∧ cls = .ref D ∧ d = some dd ∧ (∀ u, RelV c u → u = cv) ∧ PySem.W.kitOne K (.ref D) cv = some b ∧ H dd = some (.xd fl) ∧ Q (.bl b) H
theorem call_isD {X : Cx} {a D : Addr} {cls : Value} {do_ : Option Addr} {oe : Obj} {pn : List (Addr × Obj)} (C : ExcD X.K D) (hz : Zc cls do_ oe) (hf : ∃ vs, oe.data = .fields vs) :
    CallR (X.suite a ((a, oe) :: pn)) (.builtin "isinstance") (rIsD X.K D a cls do_) := by
  intro pins s σ H xs us Q I r h
  obtain ⟨c, cv, b, d, fl, rfl, rfl, rfl, hcv, e, hd, q⟩ := h
  cases r with
  | cons rx rr =>
    cases rr with
    | cons rt rn =>
      cases rn
      obtain rfl := hcv _ rt
      obtain rfl : _ = Value.ref a := rx
      obtain ⟨ha, _⟩ := I.pin (a, oe) (List.mem_append_left _ List.mem_cons_self)
      obtain ⟨vs, hv⟩ := hf
      have hx : ObjOk X.prog X.w H s.heap d (.xd fl) := I.hok d _ hd
      obtain ⟨mA, hns, hr⟩ := hx
      obtain ⟨od, ho, hl⟩ := lookIn_ns hns
      have J : PySem.W.InstAt s.heap a oe D (some od) := ⟨ha, hz.1, by unfold PySem.W.notCls; rw [hv] <;> rfl, by rw [hz.2]; exact ho⟩
      exact PySem.W.kia_one (PySem.W.kitx_exc C.cl C.ga C.gg C.ex C.cc C.sp C.tk C.mo) I.kIn J e (by intro z; cases z) fun tk => ⟨V.bl b, H, I.tok _, rfl, q⟩
end
end L2
namespace Mine
open PySem
/-- an error of the class at S is what the clause that names S takes -/
theorem exm_own {K : PySem.W.Frag} {S : Addr} (h1 : PySem.W.subIn K (.ref S) (.type "BaseException") = some true) (h2 : PySem.W.isClsIn K S = true) (h3 : PySem.W.typeIn K (.ref S) = some (.type "type")) (h4 : PySem.W.subIn K (.ref S) (.ref S) = some true) :
    PySem.W.exmOne K (.ref S) (.ref S) = some true := by
  have e1 : (PySem.W.subIn K (.ref S) (.type "BaseException") == some true) = true := by rw [h1] <;> rfl
  have e2 : ((PySem.W.clsIn K S).isSome && PySem.W.typeIn K (.ref S) == some (.type "type")) = true := by
    have h2' : (PySem.W.clsIn K S).isSome = true := h2
    rw [h2', h3] <;> rfl
  show (if (PySem.W.subIn K (.ref S) (.type "BaseException") == some true) = true then (if ((PySem.W.clsIn K S).isSome && PySem.W.typeIn K (.ref S) == some (.type "type")) = true then PySem.W.subIn K (.ref S) (.ref S) else none) else none) = some true
  rw [if_pos e1, if_pos e2]
  exact h4
end Mine

set_option Elab.async false
set_option linter.all false
set_option maxRecDepth 100000
namespace L2
open PySem PySem.Spec PyProof.Rows
/-! an own object, and a method, whose def may raise, within a try's body -/
section
variable {X : Cx} {CX : CXT} {lv : Nat} {fa cA : Addr} {fd : FuncData} {pn : List Str} {sp : Sp} {nm mm : Str} {p1 p2 p3 : Pos} {e1 oe : Expr} {er : List Expr} {to' : TE} {tr : TA}
theorem mkS_run {EE : XK} {pins : List (Addr × Obj)} {σ : St} {H : Hp} {s : Shared} {Q : VK} {us : List Value} {vs : List V}
    (M : Mk X.K cA fa) (F : FnOk X.prog X.w X.K X.mg X.base CX lv fa fd pn sp) (rm : Room (lv + 1) X.A)
    (bi : Binds X.K fd pn []) (out : PassesAt CX X σ EE) (I : Inv X pins σ H s) (r : Vals vs us)
    (h : ∀ x dx, H x = none → H dx = none → dx ≠ x →
      sp (.ref x :: vs) (upd (upd H dx (.own x)) x (.ins cA dx [])) (fun v H2 => v = .non ∧ Q (.ref x) H2) EE) :
    wpAny (model X.prog X.w) X.A (call (.ref cA) us) (EP X pins σ Q) X.xe s := by
  have J := Inv.made (C := cA) I
  obtain ⟨n, en⟩ : ∃ n, n = s.heap.objs.size := ⟨_, rfl⟩
  have q0 := h _ _ (I.hok.fresh (Nat.le_succ _)) (I.hok.fresh (Nat.le_refl _)) (Nat.ne_of_lt (Nat.lt_succ_self _))
  have rr : Vals (V.ref (s.heap.objs.size + 1) :: vs) (Value.ref (s.heap.objs.size + 1) :: us) := .cons rfl r
  have ln : (Value.ref (s.heap.objs.size + 1) :: us).length = pn.length :=
    rr.length.symm.trans (F.len _ _ _ _ q0)
  have bb := bi _ (Value.ref (s.heap.objs.size + 1) :: us) J.kIn (by rw [List.append_nil]; exact ln)
  rw [List.append_nil] at bb
  have run := F.run _ X.stack _ _ ⟨Value.ref (s.heap.objs.size + 1) :: us, []⟩ _ _ _ EE
    (rm.make cA us []) (J.env0.make cA us []) bb rr q0
  refine wpAny_call (make_map (f := fa) I.kIn M.makes M.init (beq_iff_eq.mp M.fn) (codeAny_mono run fun res s' got => ?_))
  match res, got with
  | .error e, got => exact out pins _ _ e s' J got
  | .ok (.ret u), got =>
    obtain ⟨v, H', J3, rv, ev, q3⟩ := J.after got
    rw [ev] at rv
    exact ⟨rv, V.ref (s.heap.objs.size + 1), H', J3, rfl, q3⟩
  | .ok .next, got => cases got
  | .ok .brk, got => cases got
  | .ok .cont, got => cases got
def tMakeS (C : Addr) (sp : Sp) (E : St → XK) (t : TA) : TE := fun σ H Q => t σ H fun vs H1 => ∀ x dx, H1 x = none → H1 dx = none → dx ≠ x →
  sp (.ref x :: vs) (upd (upd H1 dx (.own x)) x (.ins C dx [])) (fun v H2 => v = .non ∧ Q (.ref x) H2) (E σ)
theorem pe_makeS {EE : St → XK} (M : Mk X.K cA fa) (F : FnOk X.prog X.w X.K X.mg X.base CX lv fa fd pn sp)
    (rm : Room (lv + 1) X.A) (hg : Gl X nm) (hm : X.mg nm = some (.ref cA)) (bi : Binds X.K fd pn [])
    (out : ∀ σ, PassesAt CX X σ (EE σ)) (ha : PA X (e1 :: er) tr) (nd : (nm == ("__debug__" : Str)) = false := by decide)
    (t1 : starEach (e1 :: er) X.env = (false, eval e1 X.env) :: starEach er X.env := by rfl)
    (t2 : (backTo p2 (starEach er X.env)).any (·.1) = false := by rfl) :
    PE X (.Call (.Name nm p1) (e1 :: er) [] p2) (tMakeS cA sp EE tr) := by
  constructor
  intro pins s σ H Q I h
  refine wpAny_Call_Name_kw (ld_glob I hg hm (PySem.W.callWith_K (h₀ := X.base) I.ok.mod.kin M.kp ?_ t1 t2) nd)
  exact thn (ha.run p2 pins s σ H _ I h) fun us s1 ⟨vs, H1, I1, r, q⟩ => ⟨I1.kIn, mkS_run M F rm bi (out σ) I1 r q⟩
def tMethX (C : Addr) (m : Str) (sp : Sp) (E : St → XK) (ta : TE) (t : TA) : TE := fun σ H Q => ta σ H fun x H1 => ∃ a dx fs, x = .ref a ∧ H1 a = some (.ins C dx fs) ∧ fs.lookup m = none ∧
  t σ H1 fun vs H2 => sp (x :: vs) H2 Q (E σ)
theorem pe_methX {EE : St → XK} {pl : Sem Bool} (ho : PE X oe to') (c : Cls X.K cA) (hm : Meth X.K cA mm fa)
    (F : FnOk X.prog X.w X.K X.mg X.base CX lv fa fd pn sp) (rm : Room lv X.A) (bi : Binds X.K fd pn [])
    (out : ∀ σ, PassesAt CX X σ (EE σ)) (ha : PA X (e1 :: er) tr)
    (t1 : starEach (e1 :: er) X.env = (false, eval e1 X.env) :: starEach er X.env := by rfl)
    (t2 : (backTo p2 (starEach er X.env)).any (·.1) = false := by rfl)
    (ev : eval (.Call (.Attribute oe mm p3) (e1 :: er) [] p2) X.env = (do
      let ov ← eval oe X.env
      standAt p3.atName
      let (f, first) ← holding [ov] (getMethod ov mm pl)
      callWith p2 f first (backTo p2 (starEach (e1 :: er) X.env)) (backToKw p2 (keywordEach [] X.env))) := by rfl) :
    PE X (.Call (.Attribute oe mm p3) (e1 :: er) [] p2) (tMethX cA mm sp EE to' tr) := by
  constructor
  intro pins s σ H Q I h
  refine PySem.W.methodCall_KW (pl := pl) (thn (ho.run pins s σ H _ I h) fun u s1 got => ?_) ev
  obtain ⟨x, H1, I1, rx, a, dx, fs, rfl, ea, l, q⟩ := got
  cases (show u = Value.ref a from rx)
  refine getmeth_ok I1 ea c hm l (PySem.W.callWith_K (first := [.ref a]) (h₀ := X.base) I.ok.mod.kin hm.kp ?_ t1 t2)
  exact thn (ha.run p2 pins s1 σ H1 _ I1 q) fun us s2 ⟨vs, H2, I2, r, q2⟩ => ⟨I2.kIn, run_fnS (us := .ref a :: us) (vs := .ref a :: vs) F rm bi (out σ) I2 (.cons rfl r) q2⟩
end
end L2

set_option Elab.async false
set_option linter.all false
set_option maxRecDepth 100000
namespace Rd
open PySem PySem.Spec PyProof.Rows L2
variable {K : PySem.W.Frag} {σ : L2.St} {H : Hp} {D : Ends} {Q : VK} {v : V} {vs : List V}
theorem vv {i : Nat} (e : σ[i]? = some (some v)) (h : Q v H) : tVar i σ H Q := ⟨v, e, h⟩
theorem gdN {i : Nat} {Q : L2.St → Hp → Prop} (h : gName i v σ H Q) : gName i v σ H Q := h
theorem gdG {i : Nat} {te : TE} {ti : TIp} (h : tAug i te ti D σ H) : tAug i te ti D σ H := h
theorem gdI (h : rIsi K vs H Q) : rIsi K vs H Q := h
end Rd

set_option Elab.async false
set_option linter.all false
set_option maxRecDepth 100000
/-! dicts whose keys are texts: what a reading asks of them, over lists of pairs -/
namespace Rd
open PySem PySem.Spec PyProof.Rows L2
variable {K : PySem.W.Frag} {σ : L2.St} {H : Hp} {D : Ends} {Q : VK} {ta tb te tc td ty tx : TE} {x y v : V}
abbrev kS (p : Str × V) : Key × V := (Sum.inr p.1, p.2)
/-- a dict of texts to values, in order -/
abbrev DS (m : List (Str × V)) : HO := .dK (m.map kS)
def lks (m : List (Str × V)) (k : Str) : Option V := (m.find? fun p => decide (p.1 = k)).map (·.2)
theorem kS_eq (p : Str × V) (k : Str) : decide ((kS p).1 = Sum.inr k) = decide (p.1 = k) := by
  by_cases h : p.1 = k
  · rw [decide_eq_true h, decide_eq_true (by rw [← h])]
  · rw [decide_eq_false h, decide_eq_false fun z => h (Sum.inr.inj z)]
theorem valV_ds (m : List (Str × V)) (k : Str) : valV (m.map kS) (Sum.inr k) = lks m k := by
  unfold valV lks
  induction m with
  | nil => rfl
  | cons a r ih =>
    rw [List.map_cons, List.find?_cons, List.find?_cons, kS_eq a k]
    cases decide (a.1 = k) with
    | true => rfl
    | false => exact ih
theorem get_ds {a : Addr} {m : List (Str × V)} {k : Str} (h : L2.Rd H a (DS m)) : DGet H a (.str k) (lks m k) := .inl ⟨_, Sum.inr k, h, rfl, (valV_ds m k).symm⟩
theorem dgetS {a : Addr} {m : List (Str × V)} {k : Str} (h : L2.Rd H a (DS m)) (e : lks m k = some v) (q : Q v H) : DgG Q (.ref a) (.str k) H := ⟨a, v, rfl, e ▸ get_ds h, q⟩
theorem dgetSo {a : Addr} {m : List (Str × V)} {k : Str} (h : H a = some (DS m)) (e : lks m k = some v) (q : Q v H) : DgG Q (.ref a) (.str k) H := dgetS (.inl h) e q
/-- a key that is new -/
theorem put_new {m : List (Str × V)} {k : Str} (h : ∀ p ∈ m, p.1 ≠ k) : putK (m.map kS) (Sum.inr k) v = (m ++ [(k, v)]).map kS := by
  unfold putK
  rw [if_neg, List.map_append]
  · rfl
  · rw [List.any_map]
    intro c
    obtain ⟨p, mp, e⟩ := List.any_eq_true.mp c
    have e : decide ((kS p).1 = Sum.inr k) = true := e
    rw [kS_eq] at e
    exact h p mp (of_decide_eq_true e)
theorem dputS {a : Addr} {m : List (Str × V)} {k : Str} (h : H a = some (DS m)) (n : ∀ p ∈ m, p.1 ≠ k) (l : m.length < 100000) (q : D.nx σ (upd H a (DS (m ++ [(k, v)])))) : DpG D σ (.ref a) (.str k) v H :=
  ⟨a, _, rfl, .inl ⟨_, Sum.inr k, h, rfl, by rw [List.length_map]; exact szl l, rfl⟩, by rw [put_new n]; exact q⟩
theorem merge_new : ∀ (m : List (Str × V)) (l : List (Str × V)), (l.map (·.1) ++ m.map (·.1)).Nodup → mergeK (l.map kS) (m.map kS) = (l ++ m).map kS
  | [], l, _ => by rw [List.append_nil]; rfl
  | p :: r, l, h => by
    have hn : ∀ q ∈ l, q.1 ≠ p.1 := fun q mq z => by
      rw [List.nodup_append] at h
      exact h.2.2 q.1 (List.mem_map_of_mem mq) p.1 (by simp) z
    have e : mergeK (l.map kS) ((p :: r).map kS) = mergeK (putK (l.map kS) (Sum.inr p.1) p.2) (r.map kS) := rfl
    rw [e, put_new hn, merge_new r (l ++ [(p.1, p.2)]) (by simpa using h)]
    simp
theorem inV_strz (x : Str) (r : List Str) : inV (.str x) (r.map V.str) = decide (x ∈ r) := by
  unfold inV
  rw [List.any_map]
  by_cases h : x ∈ r
  · rw [decide_eq_true h, List.any_eq_true]
    exact ⟨x, h, beq_self_eq_true x⟩
  · rw [decide_eq_false h, List.any_eq_false]
    intro y hy e
    have e2 : (y == x) = true := e
    rw [beq_iff_eq] at e2
    exact h (e2 ▸ hy)
theorem inStrs {p : Addr} {ns : List Str} {n : Str} (h : H p = some (.lst (ns.map V.str))) (q : Q (.bl (decide (n ∈ ns))) H) : rIn K false (.str n) (.ref p) H Q :=
  ⟨p, _, rfl, .inl (SqL.of h), rfl, flat_strs _, by rw [inV_strz]; exact q⟩
/-! ### a display -/
def DspG (Q : VK) (p : Addr) (ps : List (V × V)) (H2 : Hp) : Prop := H2 p = some (.dK []) ∧ ∃ kvs : List (Key × V), ps = kvs.map (fun kv => (kV kv.1, kv.2)) ∧ kvs.length ≤ 15 ∧ Q (.ref p) (upd H2 p (.dK (mergeK [] kvs)))
def NewP (trs : List (TE × TE)) (σ : L2.St) (Q : VK) (H : Hp) : Prop := ∀ p, H p = none → tPairs trs σ (upd H p (.dK [])) fun ps H2 => DspG Q p ps H2
theorem disp {trs : List (TE × TE)} (h : NewP trs σ Q H) : tDisp trs σ H Q := h
theorem dsp {trs : List (TE × TE)} (h : ∀ p H', H p = none → Same H H' → H' p = some (.dK []) → tPairs trs σ H' fun ps H2 => DspG Q p ps H2) : NewP trs σ Q H := fun p np => h p _ np (same_new np) upd_same
theorem pnil {Q : List (V × V) → Hp → Prop} (h : Q [] H) : tPairs [] σ H Q := h
theorem pcons {Q : List (V × V) → Hp → Prop} {tk tv : TE} {r : List (TE × TE)} (h : tk σ H fun x H1 => tv σ H1 fun y H2 => tPairs r σ H2 fun ps H3 => Q ((x, y) :: ps) H3) : tPairs ((tk, tv) :: r) σ H Q := h
theorem dspS {p : Addr} {ps : List (V × V)} (m : List (Str × V)) (e : ps = m.map fun q => (V.str q.1, q.2)) (hp : H p = some (.dK [])) (l : m.length ≤ 15) (n : (m.map (·.1)).Nodup) (q : Q (.ref p) (upd H p (DS m))) : DspG Q p ps H :=
  ⟨hp, m.map kS, by rw [e, List.map_map]; rfl, by rw [List.length_map]; exact l, by
    have := merge_new m [] (by simpa using n)
    rw [List.map_nil, List.nil_append] at this
    rw [this]; exact q⟩
end Rd

set_option Elab.async false
set_option linter.all false
set_option maxRecDepth 100000
/-! match over tuples: case ("word", a, _, b), several such patterns, several texts -/
namespace L2
open PySem PySem.Spec PyProof.Rows
/-- one place of a pattern: a written text, a name that is taken, anything -/
inductive Pl
  | txt (c : Str)
  | cap (i : Nat)
  | any
def fit : List Pl → List V → Option Bool
  | [], [] => some true
  | .txt c :: ps, .str z :: xs => if z = c then fit ps xs else some false
  | .cap _ :: ps, _ :: xs => fit ps xs
  | .any :: ps, _ :: xs => fit ps xs
  | _, _ => none
def fitA (ps : List Pl) (xs : List V) : Option Bool := if ps.length = xs.length then fit ps xs else some false
def fitO : List (List Pl) → List V → Option Bool
  | [], _ => some false
  | p :: r, xs => match fitA p xs with
    | some true => some true
    | some false => fitO r xs
    | none => none
def caps : List Pl → List V → List (Nat × V)
  | .cap i :: ps, v :: vs => (i, v) :: caps ps vs
  | .txt _ :: ps, _ :: vs => caps ps vs
  | .any :: ps, _ :: vs => caps ps vs
  | _, _ => []
def tBnd : List Pl → List V → St → Hp → (St → Hp → Prop) → Prop
  | .cap i :: ps, v :: vs => fun σ H Q => gName i v σ H fun σ' H' => tBnd ps vs σ' H' Q
  | .txt _ :: ps, _ :: vs => fun σ H Q => tBnd ps vs σ H Q
  | .any :: ps, _ :: vs => fun σ H Q => tBnd ps vs σ H Q
  | _, _ => fun σ H Q => Q σ H
inductive Pt
  | rest
  | seq (ps : List Pl)
  | ors (pss : List (List Pl))
def tCasesQ (xs : List V) : List (Pt × TS) → TS
  | [] => fun D σ H => D.nx σ H
  | (.rest, t) :: _ => t
  | (.seq ps, t) :: r => fun D σ H => ∃ b, fitA ps xs = some b ∧ if b = true then tBnd ps xs σ H (fun σ' H' => t D σ' H') else tCasesQ xs r D σ H
  | (.ors pss, t) :: r => fun D σ H => ∃ b, fitO pss xs = some b ∧ if b = true then t D σ H else tCasesQ xs r D σ H
def tMatchQ (K : PySem.W.Frag) (te : TE) (l : List (Pt × TS)) : TS := fun D σ H => te σ H fun x H1 => ∃ a xs, x = .ref a ∧ SqT K H1 a xs ∧ xs.length ≤ 1000 ∧ tCasesQ xs l D σ H1
inductive PMs (X : Cx) : List Pattern → List Pl → Prop
  | nil : PMs X [] []
  | txt {c : Str} {j : Nat} {p p2 : Pos} {r : List Pattern} {l : List Pl} : PMs X r l → PMs X (.MatchValue (.Constant (.str c) j p) p2 :: r) (.txt c :: l)
  | cap {x : Str} {i : Nat} {p : Pos} {r : List Pattern} {l : List Pl} (hN : X.N.Nodup) (hi : X.N[i]? = some x) (hx : Loc X.env.scope x) (hf : X.fn x = true ∨ X.env.scope.names.lookup x = some .local) : PMs X r l → PMs X (.MatchAs none (some x) p :: r) (.cap i :: l)
  | any {p : Pos} {r : List Pattern} {l : List Pl} : PMs X r l → PMs X (.MatchAs none none p :: r) (.any :: l)
theorem PMs.len {X : Cx} {ps : List Pattern} {ls : List Pl} (h : PMs X ps ls) : ps.length = ls.length := by
  induction h with
  | nil => rfl
  | txt _ ih => exact congrArg Nat.succ ih
  | cap _ _ _ _ _ ih => exact congrArg Nat.succ ih
  | any _ ih => exact congrArg Nat.succ ih
theorem PMs.star {X : Cx} {ps : List Pattern} {ls : List Pl} (h : PMs X ps ls) : ps.findIdx? (·.isStar) = none := by
  induction h with
  | nil => rfl
  | txt _ ih => rw [List.findIdx?_cons, ih]; rfl
  | cap _ _ _ _ _ ih => rw [List.findIdx?_cons, ih]; rfl
  | any _ ih => rw [List.findIdx?_cons, ih]; rfl
/-- what the captures hold -/
inductive CapR (X : Cx) : List (Nat × V) → List (Str × Value) → Prop
  | nil : CapR X [] []
  | cons {i : Nat} {v : V} {x : Str} {u : Value} {l : List (Nat × V)} {m : List (Str × Value)} (hN : X.N.Nodup) (hi : X.N[i]? = some x) (hx : Loc X.env.scope x) (hf : X.fn x = true ∨ X.env.scope.names.lookup x = some .local) (r : RelV v u) : CapR X l m → CapR X ((i, v) :: l) ((x, u) :: m)
def tCap : List (Nat × V) → St → Hp → (St → Hp → Prop) → Prop
  | [] => fun σ H Q => Q σ H
  | (i, v) :: r => fun σ H Q => gName i v σ H fun σ' H' => tCap r σ' H' Q
theorem tBnd_caps : ∀ (ps : List Pl) (vs : List V) (σ : St) (H : Hp) (Q : St → Hp → Prop), tBnd ps vs σ H Q → tCap (caps ps vs) σ H Q
  | [], [], σ, H, Q, h => h
  | [], _ :: _, σ, H, Q, h => h
  | .cap i :: ps, v :: vs, σ, H, Q, h => by
    show tCap (caps ps vs) _ _ _
    exact tBnd_caps ps vs _ _ _ h
  | .txt _ :: ps, _ :: vs, σ, H, Q, h => tBnd_caps ps vs σ H Q h
  | .any :: ps, _ :: vs, σ, H, Q, h => tBnd_caps ps vs σ H Q h
  | .cap _ :: _, [], σ, H, Q, h => h
  | .txt _ :: _, [], σ, H, Q, h => h
  | .any :: _, [], σ, H, Q, h => h
section
variable {X : Cx}
theorem each_ok {ps : List Pattern} {ls : List Pl} (h : PMs X ps ls) : ∀ {vs : List V} {us : List Value} {b : Bool} {pins : List (Addr × Obj)} {s : Shared} {σ : St} {H : Hp} {Q : Option (List (Str × Value)) → Shared → Prop}, Inv X pins σ H s → Vals vs us → fit ls vs = some b →
    (∀ s' r, Inv X pins σ H s' → (b = false → r = none) → (b = true → ∃ bs, r = some bs ∧ CapR X (caps ls vs) bs) → Q r s') → wpAny (model X.prog X.w) X.A (matchEach ps X.env us) Q X.xe s := by
  induction h with
  | nil =>
    intro vs us b pins s σ H Q I r hf q
    cases r with
    | nil =>
      cases hf
      exact wpAny_matchEach_nil (q s _ I (fun z => nomatch z) fun _ => ⟨[], rfl, .nil⟩)
    | cons _ _ => cases hf
  | @txt c j p p2 r0 l0 hr ih =>
    intro vs us b pins s σ H Q I r hf q
    cases r with
    | nil => cases hf
    | @cons v u vr ur rv rr =>
      cases v with
      | str z =>
        have hf' : (if z = c then fit l0 vr else some false) = some b := hf
        refine wpAny_matchEach_cons (wpAny_matchPattern_Value ?_)
        refine thn ((pe_str (X := X) (x := c)).run pins s σ H (fun v H' => v = .str c ∧ H' = H) I ⟨rfl, rfl⟩) fun v s1 hh => ?_
        obtain ⟨x, H1, I1, rx, ex, eH⟩ := hh
        subst ex
        subst eH
        refine thn (op_eq pins s1 σ H1 (.str z) (.str c) u v (fun y H' => y = .bl (decide (V.str z = V.str c)) ∧ H' = H1) I1 rv rx ⟨rfl, rfl, rfl⟩) fun y s2 hh => ?_
        obtain ⟨x, H2, I2, rx2, ex, eH⟩ := hh
        subst ex
        subst eH
        cases rx2
        refine wpAny_truthy_bool ?_
        by_cases e : z = c
        · rw [if_pos e] at hf'
          rw [decide_eq_true (by rw [e])]
          refine ih I2 rr hf' fun s' r' I' h1 h2 => ?_
          cases b with
          | false =>
            cases h1 rfl
            exact q s' _ I' (fun _ => rfl) fun z => nomatch z
          | true =>
            obtain ⟨bs, rfl, cr⟩ := h2 rfl
            exact q s' _ I' (fun z => nomatch z) fun _ => ⟨bs, rfl, cr⟩
        · rw [if_neg e] at hf'
          cases hf'
          rw [decide_eq_false (fun q => e (by injection q))]
          exact q s2 _ I2 (fun _ => rfl) fun z => nomatch z
      | _ => cases hf
  | @cap x i p r0 l0 hN hi hx hfn hr ih =>
    intro vs us b pins s σ H Q I r hf q
    cases r with
    | nil => cases hf
    | @cons v u vr ur rv rr =>
      have hf' : fit l0 vr = some b := hf
      refine wpAny_matchEach_cons (wpAny_matchPattern_Capture ?_)
      refine ih I rr hf' fun s' r' I' h1 h2 => ?_
      cases b with
      | false =>
        cases h1 rfl
        exact q s' _ I' (fun _ => rfl) fun z => nomatch z
      | true =>
        obtain ⟨bs, rfl, cr⟩ := h2 rfl
        exact q s' _ I' (fun z => nomatch z) fun _ => ⟨_, rfl, .cons hN hi hx hfn rv cr⟩
  | @any p r0 l0 hr ih =>
    intro vs us b pins s σ H Q I r hf q
    cases r with
    | nil => cases hf
    | @cons v u vr ur rv rr =>
      have hf' : fit l0 vr = some b := hf
      refine wpAny_matchEach_cons (wpAny_matchPattern_Capture ?_)
      refine ih I rr hf' fun s' r' I' h1 h2 => ?_
      cases b with
      | false =>
        cases h1 rfl
        exact q s' _ I' (fun _ => rfl) fun z => nomatch z
      | true =>
        obtain ⟨bs, rfl, cr⟩ := h2 rfl
        exact q s' _ I' (fun z => nomatch z) fun _ => ⟨_, rfl, cr⟩
/-- one pattern over a tuple -/
theorem seq_ok {ps : List Pattern} {ls : List Pl} {pos : Pos} (hc : X.calm = true) (h : PMs X ps ls) (hw : (ps.all fun p => p.isWildcard || (p.isStar && p.names.isEmpty)) = false) {a : Addr} {xs : List V} {b : Bool} {pins : List (Addr × Obj)} {s : Shared} {σ : St} {H : Hp} {Q : Option (List (Str × Value)) → Shared → Prop}
    (I : Inv X pins σ H s) (hq : SqT X.K H a xs) (hl : xs.length ≤ 1000) (hf : fitA ls xs = some b)
    (q : ∀ s' r, Inv X pins σ H s' → (b = false → r = none) → (b = true → ∃ bs, r = some bs ∧ CapR X (caps ls xs) bs) → Q r s') : wpAny (model X.prog X.w) X.A (matchPattern (.MatchSequence ps pos) X.env (.ref a)) Q X.xe s := by
  obtain ⟨its, rv, ht, hz⟩ := I.tuple hq
  have hfit : (its.toArray.size : Int) < 2 ^ 63 := by
    have := rv.length
    simp only [List.size_toArray]
    omega
  have el : its.toArray.size = xs.length := by simp only [List.size_toArray]; exact rv.length.symm
  refine wpAny_matchPattern_Sequence (wpAny_collectionFlag ht.typeIs flag_seq_tuple ?_) h.star hw
  rw [if_pos rfl]
  refine pyLen_tuple ht hfit ?_
  have I1 : Inv X pins σ H { s with toks := s.toks + 1 + 1 } := I.kept (t' := s.toks + 1 + 1) fun b o e => e
  by_cases e : ls.length = xs.length
  · have ep : its.toArray.size = ps.length := by rw [el, ← e, h.len]
    rw [if_neg (by simp only [ep]; simp)]
    have hf' : fit ls xs = some b := by unfold fitA at hf; rw [if_pos e] at hf; exact hf
    rw [← ep]
    refine unpackItems_tuple (I.ok.hd hc) (show IsTup _ a its.toArray from ht) fun h' hx => ?_
    have I2 : Inv X pins σ H { s with heap := h', toks := s.toks + 1 + 1 } := I.kept (t' := s.toks + 1 + 1) fun b o e => hx b o (Nat.ne_of_lt (Heap.lt_size e)) e
    exact each_ok h I2 (by simpa using rv) hf' q
  · rw [if_pos (by simp only [el]; rw [h.len]; simp; omega)]
    have hf' : b = false := by
      unfold fitA at hf
      rw [if_neg e] at hf
      exact (Option.some.inj hf).symm
    exact q _ _ I1 (fun _ => rfl) fun z => by rw [hf'] at z; cases z
theorem assign_caps : ∀ {l : List (Nat × V)} {bs : List (Str × Value)} {pins : List (Addr × Obj)} {s : Shared} {σ : St} {H : Hp} {Q : St → Hp → Prop}, CapR X l bs → Inv X pins σ H s → tCap l σ H Q →
    wpAny (model X.prog X.w) X.A (assignInOrder (bs.map fun (n, _) => bindName X.env n) (bs.map (·.2))) (fun _ s' => ∃ σ' H', Inv X pins σ' H' s' ∧ Q σ' H') X.xe s
  | _, _, pins, s, σ, H, Q, .nil, I, h => wpAny_assignInOrder_none ⟨σ, H, I, h⟩
  | _, _, pins, s, σ, H, Q, .cons hN hi hx hf r c, I, h => by
    refine wpAny_assignInOrder_more (wpAny_bindName (store_ok I hN hi hx r (fun s' I' => ?_) hf))
    exact assign_caps c I' h
inductive PMss (X : Cx) : List Pattern → List (List Pl) → Prop
  | nil : PMss X [] []
  | cons {ps : List Pattern} {pos : Pos} {ls : List Pl} {r : List Pattern} {l : List (List Pl)} (h : PMs X ps ls) (hw : (ps.all fun p => p.isWildcard || (p.isStar && p.names.isEmpty)) = false) : PMss X r l → PMss X (.MatchSequence ps pos :: r) (ls :: l)
theorem first_ok (hc : X.calm = true) {pts : List Pattern} {lss : List (List Pl)} (h : PMss X pts lss) {a : Addr} {xs : List V} : ∀ {b : Bool} {pins : List (Addr × Obj)} {s : Shared} {σ : St} {H : Hp} {Q : Option (List (Str × Value)) → Shared → Prop},
    Inv X pins σ H s → SqT X.K H a xs → xs.length ≤ 1000 → fitO lss xs = some b → (∀ s' r, Inv X pins σ H s' → (b = false → r = none) → (b = true → ∃ bs, r = some bs) → Q r s') → wpAny (model X.prog X.w) X.A (matchFirst pts X.env (.ref a)) Q X.xe s := by
  induction h with
  | nil =>
    intro b pins s σ H Q I hq hl hf q
    cases hf
    exact wpAny_matchFirst_nil (q s _ I (fun _ => rfl) fun z => nomatch z)
  | @cons ps pos ls r l h hw hr ih =>
    intro b pins s σ H Q I hq hl hf q
    refine wpAny_matchFirst_cons ?_
    have hf' : (match fitA ls xs with | some true => some true | some false => fitO l xs | none => none) = some b := hf
    cases e : fitA ls xs with
    | none => rw [e] at hf'; cases hf'
    | some b1 =>
      rw [e] at hf'
      refine seq_ok hc h hw I hq hl e fun s' r' I' h1 h2 => ?_
      cases b1 with
      | false =>
        cases h1 rfl
        exact ih I' hq hl hf' q
      | true =>
        obtain ⟨bs, rfl, _⟩ := h2 rfl
        cases hf'
        exact q s' _ I' (fun z => nomatch z) fun _ => ⟨_, rfl⟩
inductive PCq (X : Cx) : List MatchCase → List (Pt × TS) → Prop
  | nil : PCq X [] []
  | rest {body : List Stmt} {t : TS} {p : Pos} {r : List MatchCase} : PSs X body t → PCq X (⟨.MatchAs none none p, none, body⟩ :: r) [(.rest, t)]
  | seq {body : List Stmt} {t : TS} {ps : List Pattern} {ls : List Pl} {p : Pos} {r : List MatchCase} {l : List (Pt × TS)} (h : PMs X ps ls) (hb : PSs X body t) (hr : PCq X r l) (hw : (ps.all fun p => p.isWildcard || (p.isStar && p.names.isEmpty)) = false := by rfl) :
      PCq X (⟨.MatchSequence ps p, none, body⟩ :: r) ((.seq ls, t) :: l)
  | ors {body : List Stmt} {t : TS} {ps : List Pattern} {lss : List (List Pl)} {p : Pos} {r : List MatchCase} {l : List (Pt × TS)} (h : PMss X ps lss) (hb : PSs X body t) (hr : PCq X r l) (hn : namesOfAll (ps.take 1) = [] := by rfl) :
      PCq X (⟨.MatchOr ps p, none, body⟩ :: r) ((.ors lss, t) :: l)
theorem run_casesQ (hc : X.calm = true) {a : Addr} {xs : List V} (hl : xs.length ≤ 1000) {cs : List MatchCase} {l : List (Pt × TS)} (h : PCq X cs l) : ∀ (first : Bool) (pins : List (Addr × Obj)) (s : Shared) (σ : St) (H : Hp) (D : Ends), Inv X pins σ H s → SqT X.K H a xs → tCasesQ xs l D σ H →
    wpAny (model X.prog X.w) X.A (matchCases cs X.env (.ref a) first) (SP X pins D) X.xe s := by
  induction h with
  | nil => exact fun first pins s σ H D I hq h => wpAny_matchCases_nil ⟨σ, H, I, h⟩
  | rest hb =>
    intro first pins s σ H D I hq h
    refine wpAny_matchCases_cons (wpAny_matchPattern_Capture ?_)
    exact wpAny_assignInOrder_none (hb.run pins s σ H D I h)
  | @seq body t ps ls p r l hp hb hr hw ih =>
    intro first pins s σ H D I hq h
    obtain ⟨b, hf, h⟩ := h
    refine wpAny_matchCases_cons (seq_ok hc hp hw I hq hl hf fun s' r' I' h1 h2 => ?_)
    cases b with
    | false =>
      cases h1 rfl
      rw [if_neg (by simp)] at h
      exact ih false pins s' σ H D I' hq h
    | true =>
      obtain ⟨bs, rfl, cr⟩ := h2 rfl
      rw [if_pos rfl] at h
      refine thn (assign_caps cr I' (tBnd_caps _ _ _ _ _ h)) fun _ s1 hh => ?_
      obtain ⟨σ', H', I2, q⟩ := hh
      exact hb.run pins s1 σ' H' D I2 q
  | @ors body t ps lss p r l hp hb hr hn ih =>
    intro first pins s σ H D I hq h
    obtain ⟨b, hf, h⟩ := h
    refine wpAny_matchCases_cons (wpAny_matchPattern_Or (first_ok hc hp I hq hl hf fun s' r' I' h1 h2 => ?_))
    cases b with
    | false =>
      cases h1 rfl
      rw [if_neg (by simp)] at h
      exact ih false pins s' σ H D I' hq h
    | true =>
      obtain ⟨bs, rfl⟩ := h2 rfl
      rw [if_pos rfl] at h
      show wpAny _ _ (assignInOrder (((namesOfAll (ps.take 1)).filterMap fun n => (bs.lookup n).map (n, ·)).map _) _) _ _ _
      rw [hn]
      exact wpAny_assignInOrder_none (hb.run pins s' σ H D I' h)
theorem ps_matchQ {e : Expr} {te : TE} {cs : List MatchCase} {l : List (Pt × TS)} {pos : Pos} (hc : X.calm = true) (he : PE X e te) (hp : PCq X cs l) : PS X (.Match e cs pos) (tMatchQ X.K te l) := by
  refine ⟨fun pins s σ H D I h => wpAny_Match ?_⟩
  refine thn (he.run pins s σ H _ I h) fun u s1 hh => ?_
  obtain ⟨x, H1, I1, rx, a, xs, ex, hq, hl, hz⟩ := hh
  subst ex
  cases rx
  exact run_casesQ hc hl hp true pins s1 σ H1 D I1 hq hz
end
/-! ### match over texts with several of them -/
def tCasesO (z : Str) : List (Option (List Str) × TS) → TS
  | [] => fun D σ H => D.nx σ H
  | (none, t) :: _ => t
  | (some cs, t) :: r => fun D σ H => if z ∈ cs then t D σ H else tCasesO z r D σ H
def tMatchO (te : TE) (l : List (Option (List Str) × TS)) : TS := fun D σ H => te σ H fun x H1 => ∃ z : Str, x = .str z ∧ tCasesO z l D σ H1
inductive PVs (X : Cx) : List Pattern → List Str → Prop
  | nil : PVs X [] []
  | cons {c : Str} {j : Nat} {p p2 : Pos} {r : List Pattern} {l : List Str} : PVs X r l → PVs X (.MatchValue (.Constant (.str c) j p) p2 :: r) (c :: l)
inductive PCo (X : Cx) : List MatchCase → List (Option (List Str) × TS) → Prop
  | nil : PCo X [] []
  | rest {body : List Stmt} {t : TS} {p : Pos} {r : List MatchCase} : PSs X body t → PCo X (⟨.MatchAs none none p, none, body⟩ :: r) [(none, t)]
  | text {body : List Stmt} {t : TS} {c : Str} {j : Nat} {p p2 : Pos} {r : List MatchCase} {l : List (Option (List Str) × TS)} : PSs X body t → PCo X r l →
      PCo X (⟨.MatchValue (.Constant (.str c) j p) p2, none, body⟩ :: r) ((some [c], t) :: l)
  | ors {body : List Stmt} {t : TS} {ps : List Pattern} {cs : List Str} {p : Pos} {r : List MatchCase} {l : List (Option (List Str) × TS)} (h : PVs X ps cs) (hb : PSs X body t) (hr : PCo X r l) (hn : namesOfAll (ps.take 1) = [] := by rfl) :
      PCo X (⟨.MatchOr ps p, none, body⟩ :: r) ((some cs, t) :: l)
section
variable {X : Cx}
theorem val_ok {c z : Str} {u : Value} (ru : RelV (.str z) u) {j : Nat} {p p2 : Pos} {pins : List (Addr × Obj)} {s : Shared} {σ : St} {H : Hp} {Q : Option (List (Str × Value)) → Shared → Prop} (I : Inv X pins σ H s)
    (q : ∀ s', Inv X pins σ H s' → Q (if z = c then some [] else none) s') : wpAny (model X.prog X.w) X.A (matchPattern (.MatchValue (.Constant (.str c) j p) p2) X.env u) Q X.xe s := by
  refine wpAny_matchPattern_Value ?_
  refine thn ((pe_str (X := X) (x := c)).run pins s σ H (fun v H' => v = .str c ∧ H' = H) I ⟨rfl, rfl⟩) fun v s1 hh => ?_
  obtain ⟨x, H1, I1, rx, ex, eH⟩ := hh
  subst ex
  subst eH
  refine thn (op_eq pins s1 σ H1 (.str z) (.str c) u v (fun y H' => y = .bl (decide (V.str z = V.str c)) ∧ H' = H1) I1 ru rx ⟨rfl, rfl, rfl⟩) fun y s2 hh => ?_
  obtain ⟨x, H2, I2, rx2, ex, eH⟩ := hh
  subst ex
  subst eH
  cases rx2
  refine wpAny_truthy_bool ?_
  have q2 := q s2 I2
  by_cases e : z = c
  · rw [if_pos e] at q2
    rw [decide_eq_true (by rw [e])]
    exact q2
  · rw [if_neg e] at q2
    rw [decide_eq_false (fun q => e (by injection q))]
    exact q2
theorem vals_ok {z : Str} {u : Value} (ru : RelV (.str z) u) {ps : List Pattern} {cs : List Str} (h : PVs X ps cs) : ∀ {pins : List (Addr × Obj)} {s : Shared} {σ : St} {H : Hp} {Q : Option (List (Str × Value)) → Shared → Prop}, Inv X pins σ H s →
    (∀ s', Inv X pins σ H s' → Q (if z ∈ cs then some [] else none) s') → wpAny (model X.prog X.w) X.A (matchFirst ps X.env u) Q X.xe s := by
  induction h with
  | nil =>
    intro pins s σ H Q I q
    have q2 := q s I
    rw [if_neg List.not_mem_nil] at q2
    exact wpAny_matchFirst_nil q2
  | @cons c j p p2 r l hr ih =>
    intro pins s σ H Q I q
    refine wpAny_matchFirst_cons (val_ok ru I fun s' I' => ?_)
    by_cases e : z = c
    · rw [if_pos e]
      have q2 := q s' I'
      rw [if_pos (by rw [e]; exact List.mem_cons_self ..)] at q2
      exact q2
    · rw [if_neg e]
      refine ih I' fun s2 I2 => ?_
      have q2 := q s2 I2
      by_cases m : z ∈ l
      · rw [if_pos m]
        rw [if_pos (List.mem_cons_of_mem _ m)] at q2
        exact q2
      · rw [if_neg m]
        rw [if_neg (fun w => (List.mem_cons.mp w).elim e m)] at q2
        exact q2
theorem run_casesO {z : Str} {u : Value} (ru : RelV (.str z) u) {cs : List MatchCase} {l : List (Option (List Str) × TS)} (h : PCo X cs l) : ∀ (first : Bool) (pins : List (Addr × Obj)) (s : Shared) (σ : St) (H : Hp) (D : Ends), Inv X pins σ H s → tCasesO z l D σ H →
    wpAny (model X.prog X.w) X.A (matchCases cs X.env u first) (SP X pins D) X.xe s := by
  induction h with
  | nil => exact fun first pins s σ H D I h => wpAny_matchCases_nil ⟨σ, H, I, h⟩
  | rest hb =>
    intro first pins s σ H D I h
    refine wpAny_matchCases_cons (wpAny_matchPattern_Capture ?_)
    exact wpAny_assignInOrder_none (hb.run pins s σ H D I h)
  | @text body t c j p p2 r l hb hr ih =>
    intro first pins s σ H D I h
    refine wpAny_matchCases_cons (val_ok ru I fun s' I' => ?_)
    have h' : (if z ∈ [c] then t D σ H else tCasesO z l D σ H) := h
    by_cases e : z = c
    · rw [if_pos e]
      rw [if_pos (List.mem_singleton.mpr e)] at h'
      exact wpAny_assignInOrder_none (hb.run pins s' σ H D I' h')
    · rw [if_neg e]
      rw [if_neg (fun w => e (List.mem_singleton.mp w))] at h'
      exact ih false pins s' σ H D I' h'
  | @ors body t ps cs p r l hp hb hr hn ih =>
    intro first pins s σ H D I h
    refine wpAny_matchCases_cons (wpAny_matchPattern_Or (vals_ok ru hp I fun s' I' => ?_))
    have h' : (if z ∈ cs then t D σ H else tCasesO z l D σ H) := h
    by_cases e : z ∈ cs
    · rw [if_pos e]
      rw [if_pos e] at h'
      show wpAny _ _ (assignInOrder (((namesOfAll (ps.take 1)).filterMap fun n => (([] : List (Str × Value)).lookup n).map (n, ·)).map _) _) _ _ _
      rw [hn]
      exact wpAny_assignInOrder_none (hb.run pins s' σ H D I' h')
    · rw [if_neg e]
      rw [if_neg e] at h'
      exact ih false pins s' σ H D I' h'
theorem ps_matchO {e : Expr} {te : TE} {cs : List MatchCase} {l : List (Option (List Str) × TS)} {pos : Pos} (he : PE X e te) (hp : PCo X cs l) : PS X (.Match e cs pos) (tMatchO te l) := by
  refine ⟨fun pins s σ H D I h => wpAny_Match ?_⟩
  refine thn (he.run pins s σ H _ I h) fun u s1 hh => ?_
  obtain ⟨x, H1, I1, rx, z, ez, hz⟩ := hh
  subst ez
  exact run_casesO rx hp true pins s1 σ H1 D I1 hz
end
end L2
namespace Rd
open PySem PySem.Spec PyProof.Rows L2
variable {K : PySem.W.Frag} {σ : L2.St} {H : Hp} {D : Ends} {te : TE} {t : TS} {v : V} {vs xs : List V} {ps : List Pl} {pss : List (List Pl)} {r : List (Pt × TS)} {z c : Str}
theorem mtq {l : List (Pt × TS)} (h : te σ H fun x H1 => ∃ a xs, x = .ref a ∧ SqT K H1 a xs ∧ xs.length ≤ 1000 ∧ tCasesQ xs l D σ H1) : tMatchQ K te l D σ H := h
theorem mtqI {a : Addr} {l : List (Pt × TS)} (h : SqT K H a xs) (hl : xs.length ≤ 1000) (q : tCasesQ xs l D σ H) : ∃ a' xs, V.ref a = .ref a' ∧ SqT K H a' xs ∧ xs.length ≤ 1000 ∧ tCasesQ xs l D σ H := ⟨a, xs, rfl, h, hl, q⟩
theorem mtRest {r : List (Pt × TS)} (h : t D σ H) : tCasesQ xs ((.rest, t) :: r) D σ H := h
theorem mtEnd (h : D.nx σ H) : tCasesQ xs [] D σ H := h
/-- another length -/
theorem mtLen (e : (ps.length == xs.length) = false) (h : tCasesQ xs r D σ H) : tCasesQ xs ((.seq ps, t) :: r) D σ H :=
  ⟨false, by unfold fitA; rw [if_neg (by simpa using e)], if_f rfl h⟩
/-- another word in the first place -/
theorem mtNo (e : z ≠ c) (h : tCasesQ (.str z :: xs) r D σ H) : tCasesQ (.str z :: xs) ((.seq (.txt c :: ps), t) :: r) D σ H :=
  ⟨false, (by
    unfold fitA
    by_cases l : (Pl.txt c :: ps).length = (V.str z :: xs).length
    · rw [if_pos l]; show (if z = c then _ else _) = _; rw [if_neg e]
    · rw [if_neg l]), if_f rfl h⟩
theorem mtNo2 (e : z ≠ c) (h : tCasesQ (v :: .str z :: xs) r D σ H) : tCasesQ (v :: .str z :: xs) ((.seq (.any :: .txt c :: ps), t) :: r) D σ H :=
  ⟨false, (by
    unfold fitA
    by_cases l : (Pl.any :: Pl.txt c :: ps).length = (v :: V.str z :: xs).length
    · rw [if_pos l]; show (if z = c then _ else _) = _; rw [if_neg e]
    · rw [if_neg l]), if_f rfl h⟩
/-- it fits: the same word, the rest any -/
theorem mtYes (e : fitA ps xs = some true) (h : tBnd ps xs σ H (fun σ' H' => t D σ' H')) : tCasesQ (.str c :: xs) ((.seq (.txt c :: ps), t) :: r) D σ H :=
  ⟨true, (by
    unfold fitA at e ⊢
    by_cases l : ps.length = xs.length
    · rw [if_pos l] at e
      rw [if_pos (show (Pl.txt c :: ps).length = (V.str c :: xs).length from congrArg Nat.succ l)]
      show (if c = c then fit ps xs else _) = _
      rw [if_pos rfl]; exact e
    · rw [if_neg l] at e; cases e), if_t rfl h⟩
theorem mtFit (e : fitA ps xs = some true) (h : tBnd ps xs σ H (fun σ' H' => t D σ' H')) : tCasesQ xs ((.seq ps, t) :: r) D σ H := ⟨true, e, if_t rfl h⟩
theorem mtOY (e : fitO pss xs = some true) (h : t D σ H) : tCasesQ xs ((.ors pss, t) :: r) D σ H := ⟨true, e, if_t rfl h⟩
theorem mtON (e : fitO pss xs = some false) (h : tCasesQ xs r D σ H) : tCasesQ xs ((.ors pss, t) :: r) D σ H := ⟨false, e, if_f rfl h⟩
theorem tbC {i : Nat} {Q : L2.St → Hp → Prop} (h : gName i v σ H fun σ' H' => tBnd ps vs σ' H' Q) : tBnd (.cap i :: ps) (v :: vs) σ H Q := h
theorem tbT {Q : L2.St → Hp → Prop} (h : tBnd ps vs σ H Q) : tBnd (.txt c :: ps) (v :: vs) σ H Q := h
theorem tbA {Q : L2.St → Hp → Prop} (h : tBnd ps vs σ H Q) : tBnd (.any :: ps) (v :: vs) σ H Q := h
theorem tbN {Q : L2.St → Hp → Prop} (h : Q σ H) : tBnd [] [] σ H Q := h
theorem mto {l : List (Option (List Str) × TS)} (h : te σ H fun x H1 => ∃ z : Str, x = .str z ∧ tCasesO z l D σ H1) : tMatchO te l D σ H := h
theorem mtoI {l : List (Option (List Str) × TS)} (q : tCasesO z l D σ H) : ∃ z' : Str, V.str z = .str z' ∧ tCasesO z' l D σ H := ⟨z, rfl, q⟩
theorem moRest {r : List (Option (List Str) × TS)} (h : t D σ H) : tCasesO z ((none, t) :: r) D σ H := h
theorem moEnd (h : D.nx σ H) : tCasesO z [] D σ H := h
theorem moY {cs : List Str} {r : List (Option (List Str) × TS)} (e : z ∈ cs) (h : t D σ H) : tCasesO z ((some cs, t) :: r) D σ H := by
  show (if z ∈ cs then _ else _)
  rw [if_pos e]; exact h
theorem moN {cs : List Str} {r : List (Option (List Str) × TS)} (e : z ∉ cs) (h : tCasesO z r D σ H) : tCasesO z ((some cs, t) :: r) D σ H := by
  show (if z ∈ cs then _ else _)
  rw [if_neg e]; exact h
end Rd
namespace Rd
open PySem PySem.Spec PyProof.Rows L2
theorem inV_strT (x : Str) (r : List Str) : inV (.str x) (r.map V.str) = decide (x ∈ r) := by
  unfold inV
  rw [List.any_map]
  by_cases h : x ∈ r
  · rw [decide_eq_true h, List.any_eq_true]
    exact ⟨x, h, beq_self_eq_true x⟩
  · rw [decide_eq_false h, List.any_eq_false]
    intro y hy e
    have e2 : (y == x) = true := e
    rw [beq_iff_eq] at e2
    exact h (e2 ▸ hy)
theorem flat_strT : ∀ r : List Str, (r.map V.str).all flatV = true
  | [] => rfl
  | _ :: r => flat_strT r
/-- a text in a tuple of texts -/
theorem inStrT {K : PySem.W.Frag} {H : Hp} {Q : VK} {p : Addr} (ns : List Str) {n : Str} (h : SqT K H p (ns.map V.str)) (q : Q (.bl (decide (n ∈ ns))) H) : rIn K false (.str n) (.ref p) H Q :=
  ⟨p, _, rfl, .inr h, rfl, flat_strT _, by rw [inV_strT]; exact q⟩
end Rd
namespace Rd
open PySem PySem.Spec PyProof.Rows L2
variable {σ : L2.St} {H : Hp} {D : Ends} {te : TE} {t : TS} {z c : Str}
/-! match over written texts -/
theorem mch {l : List (Option Str × TS)} (h : te σ H fun x H1 => ∃ z : Str, x = .str z ∧ tCases z l D σ H1) : tMatch te l D σ H := h
theorem mchI {l : List (Option Str × TS)} (q : tCases z l D σ H) : ∃ z' : Str, V.str z = .str z' ∧ tCases z' l D σ H := ⟨z, rfl, q⟩
theorem mchY {r : List (Option Str × TS)} (h : t D σ H) : tCases c ((some c, t) :: r) D σ H := by
  show (if c = c then _ else _)
  rw [if_pos rfl]; exact h
theorem mchN {r : List (Option Str × TS)} (e : z ≠ c) (h : tCases z r D σ H) : tCases z ((some c, t) :: r) D σ H := by
  show (if z = c then _ else _)
  rw [if_neg e]; exact h
theorem mchE (h : z = c → t D σ H) {r : List (Option Str × TS)} (g : z ≠ c → tCases z r D σ H) : tCases z ((some c, t) :: r) D σ H := by
  show (if z = c then _ else _)
  by_cases e : z = c
  · rw [if_pos e]; exact h e
  · rw [if_neg e]; exact g e
theorem mchRest {r : List (Option Str × TS)} (h : t D σ H) : tCases z ((none, t) :: r) D σ H := h
end Rd

set_option Elab.async false
set_option linter.all false
set_option maxRecDepth 100000
/-! calls with keywords: pieces of their values; C(k = v, ..) within a try -/
namespace L2
open PySem PySem.Spec PyProof.Rows
open PySem.W (Looks)
theorem looks_for {α β : Type} {M : Model} {h : Heap} {f : α → β → Sem (ForInStep β)} (I : List α → β → Prop) {last : β} (end_ : ∀ b, I [] b → b = last) (step : ∀ a l b, I (a :: l) b → ∃ b', Looks M h (f a b) (.yield b') ∧ I l b') : ∀ (l : List α) (b : β), I l b → Looks M h (forIn l b f) last
  | [], b, i => by
    rw [List.forIn_nil, end_ b i]
    exact .now
  | a :: l, b, i => by
    obtain ⟨b', h1, h2⟩ := step a l b i
    rw [List.forIn_cons]
    exact h1.andThen (looks_for I end_ step l b' h2)
theorem lookup_some {β : Type} (k : Str) : ∀ (l : List (Str × β)), (l.lookup k).isSome = (l.map (·.1)).contains k
  | [] => rfl
  | (a, v) :: l => by
    rw [List.lookup_cons, List.map_cons, List.contains_cons, ← lookup_some k l]
    cases e : k == a <;> simp
theorem bind_kw {M : Model} {K : PySem.W.Frag} {h : Heap} {x qual : Str} {params : Arguments} {body : List Stmt} {scope : Scope} {D : Addr} {doc pm : Value} {an : Option Addr} {cdv ct : Value} {us : List Value} {kw ms : List (Str × Value)} {r : List (Str × Value)}
    {normal kwonly ks : List Str} (X : K.In h) (h1 : params.posonlyargs = []) (h2 : params.vararg = none) (h3 : params.kwarg = none) (h4 : params.args.map (·.arg) = normal) (h5 : params.kwonlyargs.map (·.arg) = kwonly) (e0 : us.length = normal.length) (e1 : kw.map (·.1) = ks)
    (hk : (ks.all fun k => kwonly.contains k) = true) (hnd : (normal ++ ks).Nodup) (hms : ms.map (·.1) = kwonly.filter fun n => !(normal ++ ks).contains n) (hkd : kwonly.Nodup) (hD : ∀ q ∈ ms, PySem.W.nsIn K D q.1 = some (some q.2))
    (hr : (normal ++ kwonly).filterMap (fun n => ((normal.zip us ++ kw ++ ms).lookup n).map (n, ·)) = r) :
    PySem.W.Looks M h (bindArgs (PySem.W.fnOf x qual params body scope .none (.ref D) doc pm an cdv ct) ⟨us, kw⟩) r := by
  have kz : (normal.zip us).map (·.1) = normal := by
    rw [List.map_fst_zip]
    omega
  unfold bindArgs
  simp only [PySem.W.fnOf, h1, h2, h3, List.map_nil, List.nil_append, Option.isNone_none, Option.isSome_none, h4, h5]
  refine Looks.andThen (a := (normal.zip us ++ kw, [])) (looks_for (fun l b => ∃ d, b = (normal.zip us ++ d, []) ∧ d ++ l = kw) (fun b ⟨d, e, e2⟩ => by rw [e, ← e2, List.append_nil]) (fun a l b ⟨d, e, e2⟩ => ?_) _ _ ⟨[], by rw [List.append_nil], rfl⟩) ?_
  rotate_left
  · subst e
    refine ⟨(normal.zip us ++ (d ++ [a]), []), ?_, d ++ [a], rfl, by rw [← e2, List.append_assoc]; rfl⟩
    have ma : a.1 ∈ ks := by rw [← e1, ← e2]; simp
    have c1 : kwonly.contains a.1 = true := (List.all_eq_true.mp hk) _ ma
    have c2 : ((normal.zip us ++ d).lookup a.1).isSome = false := by
      rw [lookup_some, List.map_append, kz]
      rw [← e1, ← e2, List.map_append, List.map_cons] at hnd
      have := (List.nodup_append.mp hnd)
      cases e : (normal ++ d.map (·.1)).contains a.1 with
      | false => rfl
      | true =>
        exfalso
        rw [List.contains_iff_mem, List.mem_append] at e
        rcases e with e | e
        · exact this.2.2 _ e _ (by simp) rfl
        · exact (List.nodup_append.mp this.2.1).2.2 _ e _ (by simp) rfl
    rw [c1, Bool.or_true, if_pos rfl]
    simp only [c2, Bool.false_eq_true, if_false]
    rw [← List.append_assoc]
    exact .now
  · refine Looks.andThen (a := none) .now ?_
    have g1 : ¬ ((decide (us.length > normal.length) && true) = true) := by rw [e0]; simp
    have g0 : ((none : Option (Array Value)).getD #[]).toList = [] := rfl
    simp only [g0, List.length_nil, List.drop_nil, Nat.sub_zero, List.zip_nil_right, if_neg g1]
    have g2 : (normal.take normal.length).filter (fun n => ((normal.zip us ++ kw).lookup n).isNone) = [] := by
      rw [List.filter_eq_nil_iff]
      intro n hn
      rw [List.take_length] at hn
      have : ((normal.zip us ++ kw).lookup n).isSome = true := by
        rw [lookup_some, List.map_append, kz]
        rw [List.contains_iff_mem]
        exact List.mem_append.mpr (.inl hn)
      rw [Option.isNone_iff_eq_none]
      intro z
      rw [z] at this
      cases this
    rw [g2]
    simp only [List.isEmpty_nil, Bool.not_true, Bool.false_eq_true, if_false]
    rw [List.forIn_nil, pure_bind]
    refine Looks.andThen (a := (normal.zip us ++ kw ++ ms, [])) (looks_for (fun l b => ∃ d k, d ++ l = kwonly ∧ b = (normal.zip us ++ kw ++ ms.take k, []) ∧ (ms.take k).map (·.1) = d.filter (fun n => !(normal ++ ks).contains n) ∧ (ms.drop k).map (·.1) = l.filter (fun n => !(normal ++ ks).contains n))
      (fun b ⟨d, k, e, e2, e3, e4⟩ => ?_) (fun a l b ⟨d, k, e, e2, e3, e4⟩ => ?_) _ _ ⟨[], 0, rfl, by rw [List.take_zero, List.append_nil], rfl, by rw [List.drop_zero]; exact hms⟩) ?_
    rotate_left
    · have : ms.drop k = [] := by
        have := congrArg List.length e4
        rw [List.length_map, List.filter_nil] at this
        exact List.eq_nil_of_length_eq_zero this
      rw [e2, show ms.take k = ms from by
        have h := List.take_append_drop k ms
        rw [this, List.append_nil] at h
        exact h]
    · subst e2
      have md : a ∉ d := fun m => by
        rw [← e] at hkd
        exact (List.nodup_append.mp hkd).2.2 a m a (List.mem_cons_self ..) rfl
      have ek : ((normal.zip us ++ kw ++ ms.take k).lookup a).isSome = (normal ++ ks).contains a := by
        rw [lookup_some, List.map_append, List.map_append, kz, e1, e3]
        rw [Bool.eq_iff_iff, List.contains_iff_mem, List.contains_iff_mem, List.mem_append, List.mem_filter]
        constructor
        · rintro (h | h)
          · exact h
          · exact absurd h.1 md
        · exact fun h => .inl h
      rw [List.filter_cons] at e4
      cases c : (normal ++ ks).contains a with
      | true =>
        rw [c] at ek e4
        refine ⟨_, ?_, d ++ [a], k, by rw [← e, List.append_assoc]; rfl, rfl, by rw [e3, List.filter_append, List.filter_cons, c]; simp, e4⟩
        have e0 : ((normal.zip us ++ kw ++ ms.take k).lookup a).isNone = false := by
          cases z : (normal.zip us ++ kw ++ ms.take k).lookup a with
          | none => rw [z] at ek; cases ek
          | some _ => rfl
        simp only [e0, Bool.false_eq_true, if_false]
        exact .now
      | false =>
        rw [c] at ek e4
        rw [Bool.not_false, if_pos rfl] at e4
        have e0 : ((normal.zip us ++ kw ++ ms.take k).lookup a).isNone = true := by
          cases z : (normal.zip us ++ kw ++ ms.take k).lookup a with
          | none => rfl
          | some _ => rw [z] at ek; cases ek
        obtain ⟨q, hq⟩ : ∃ q, ms[k]? = some q := by
          cases z : ms[k]? with
          | some q => exact ⟨q, rfl⟩
          | none =>
            rw [List.drop_eq_nil_of_le (List.getElem?_eq_none_iff.mp z)] at e4
            cases e4
        have hk' := (List.getElem?_eq_some_iff.mp hq).1
        have hqe := (List.getElem?_eq_some_iff.mp hq).2
        have ed : ms.drop k = q :: ms.drop (k + 1) := by rw [List.drop_eq_getElem_cons hk', hqe]
        have et : ms.take (k + 1) = ms.take k ++ [q] := by rw [List.take_succ, hq]; rfl
        rw [ed, List.map_cons] at e4
        injection e4 with e5 e6
        have hn := hD q (List.mem_of_getElem? hq)
        refine ⟨(normal.zip us ++ kw ++ ms.take (k + 1), []), ?_, d ++ [a], k + 1, by rw [← e, List.append_assoc]; rfl, rfl, by rw [et, List.map_append, e3, List.filter_append, List.filter_cons, c, e5.symm]; simp, e6⟩
        simp only [e0, if_true]
        refine Looks.andThen (PySem.W.looks_nsIn X (e5 ▸ hn)) ?_
        rw [et, ← List.append_assoc, show [q] = [(a, q.2)] from by rw [← e5]]
        exact .now
    · simp only [List.isEmpty_nil, Bool.not_true, Bool.false_eq_true, if_false]
      rw [hr]
      exact .now
/-- a call with keywords of a def without defaults but keyword-only ones -/
theorem kbn_mk {K : PySem.W.Frag} {x qual : Str} {params : Arguments} {body : List Stmt} {scope : Scope} {kws : List (Str × V)} {f : Addr} {fd : FuncData} (F : FunD K x qual params body scope [] kws f fd) (hk : kws ≠ [])
    {normal kwonly ks : List Str} (ms : List (Str × V)) (g : {α : Type} → List α → List α → List α → List α) (hm : ∀ q ∈ ms, q ∈ kws)
    (h1 : params.posonlyargs = []) (h2 : params.vararg = none) (h3 : params.kwarg = none) (h4 : params.args.map (·.arg) = normal) (h5 : params.kwonlyargs.map (·.arg) = kwonly)
    (hks : (ks.all fun k => kwonly.contains k) = true) (hnd : (normal ++ ks).Nodup) (hms : ms.map (·.1) = kwonly.filter fun n => !(normal ++ ks).contains n) (hkd : kwonly.Nodup)
    (hrel : ∀ {vs mz zs : List V} {us mv ws : List Value}, Vals vs us → Vals mz mv → Vals zs ws → Vals (g vs mz zs) (g us mv ws))
    (hr : ∀ us mv ws : List Value, us.length = normal.length → mv.length = ms.length → ws.length = ks.length →
      (normal ++ kwonly).filterMap (fun n => ((normal.zip us ++ ks.zip ws ++ (ms.map (·.1)).zip mv).lookup n).map (n, ·)) = (normal ++ kwonly).zip (g us mv ws)) :
    ∃ mv : List Value, KBn K fd (normal ++ kwonly) normal.length ks (fun us ws => g us mv ws) (fun vs zs => g vs (ms.map (·.2)) zs) := by
  obtain ⟨oc, od, dV, kV, doc, pm, an, cdv, ct, osl, rfl, lk, hcd, hD, hK⟩ := F.ex
  rcases hD with ⟨_, rfl⟩ | ⟨e, _⟩
  · rcases hK with e | ⟨D, rfl, hq⟩
    · exact absurd e hk
    · obtain ⟨mv, hl, rk, hv⟩ := kwd_vals (ms := ms) fun q h => hq q (hm q h)
      refine ⟨mv, ⟨fun s us ws X l1 l2 => BindsTo.of_looks fun M => bind_kw X h1 h2 h3 h4 h5 l1 ?_ hks hnd (ms := (ms.map (·.1)).zip mv) ?_ hkd hv (hr us mv ws l1 hl l2), fun r1 r2 => hrel r1 rk r2⟩⟩
      · rw [List.map_fst_zip]; omega
      · rw [List.map_fst_zip, hms]; rw [List.length_map]; omega
  · exact absurd rfl e
theorem _root_.L2.Vals.tk : ∀ {xs : List V} {us : List Value}, Vals xs us → ∀ (n : Nat), Vals (xs.take n) (us.take n)
  | _, _, .nil, n => by rw [List.take_nil, List.take_nil]; exact .nil
  | _, _, .cons _ _, 0 => .nil
  | _, _, .cons a r, n + 1 => .cons a (Vals.tk r n)
theorem _root_.Paired.tk {xs : List V} {us : List Value} (h : Vals xs us) (n : Nat) : Vals (xs.take n) (us.take n) := Vals.tk h n
section
variable {X : Cx} {CX : CXT} {k n : Nat} {f C : Addr} {fd : FuncData} {ps ks : List Str} {sp : Sp} {E : L2.St → XK} {x : Str} {p pos : Pos} {e : Expr} {es : List Expr} {kws : List Keyword} {t tk : TA} {g : List Value → List Value → List Value} {gV : List V → List V → List V}
theorem run_makeKS {EE : XK} {pins : List (Addr × Obj)} {σ : St} {H : Hp} {s : Shared} {Q : VK} {us ws : List Value} {vs zs : List V} (M : Mk X.K C f) (F : FnOk X.prog X.w X.K X.mg X.base CX k f fd ps sp) (hr : Room (k + 1) X.A) (hb : KBn X.K fd ps (n + 1) ks g gV) (hx : PassesAt CX X σ EE)
    (I : Inv X pins σ H s) (r : Vals vs us) (rz : Vals zs ws) (l1 : vs.length = n) (l2 : zs.length = ks.length)
    (h : ∀ x dx, H x = none → H dx = none → dx ≠ x → sp (gV (.ref x :: vs) zs) (upd (upd H dx (.own x)) x (.ins C dx [])) (fun v H2 => v = .non ∧ Q (.ref x) H2) EE) :
    wpAny (model X.prog X.w) X.A (call (.ref C) us (ks.zip ws)) (EP X pins σ Q) X.xe s := by
  have hq := h (s.heap.objs.size + 1) s.heap.objs.size (I.hok.fresh (Nat.le_succ _)) (I.hok.fresh (Nat.le_refl _)) (Nat.ne_of_lt (Nat.lt_succ_self _))
  have I2 := Inv.made (C := C) I
  have r1 : Vals (V.ref (s.heap.objs.size + 1) :: vs) (Value.ref (s.heap.objs.size + 1) :: us) := .cons rfl r
  have r2 := hb.rel r1 rz
  have n1 : (Value.ref (s.heap.objs.size + 1) :: us).length = n + 1 := by
    rw [List.length_cons, ← r.length, l1]
  refine wpAny_call (make_map (f := f) I.kIn M.makes M.init (beq_iff_eq.mp M.fn) (codeAny_mono (F.run _ X.stack _ _ ⟨Value.ref (s.heap.objs.size + 1) :: us, ks.zip ws⟩ (g (Value.ref (s.heap.objs.size + 1) :: us) ws) _ _ EE (hr.make C us (ks.zip ws))
    (I2.env0.make C us (ks.zip ws)) (hb.to _ (Value.ref (s.heap.objs.size + 1) :: us) ws I2.kIn n1 (rz.length.symm.trans l2)) r2 hq) fun r s' hq' => ?_))
  cases r with
  | error e => exact hx pins _ _ e s' I2 hq'
  | ok fl =>
    cases fl with
    | ret u =>
      obtain ⟨v, H', I3, rv, ev, q3⟩ := I2.after hq'
      subst ev
      exact ⟨rv, ⟨V.ref (s.heap.objs.size + 1), H', I3, rfl, q3⟩⟩
    | next => exact False.elim hq'
    | brk => exact False.elim hq'
    | cont => exact False.elim hq'
def tMakeKS (C : Addr) (m : Nat) (sp : Sp) (gV : List V → List V → List V) (E : L2.St → XK) (tk : TA) : TE := fun σ H Q => tk σ H fun zs H2 => zs.length = m ∧ ∀ x dx, H2 x = none → H2 dx = none → dx ≠ x →
  sp (gV [.ref x] zs) (upd (upd H2 dx (.own x)) x (.ins C dx [])) (fun v H3 => v = .non ∧ Q (.ref x) H3) (E σ)
/-- C(k = v, ..) within a try -/
theorem pe_makeKS (M : Mk X.K C f) (F : FnOk X.prog X.w X.K X.mg X.base CX k f fd ps sp) (hr : Room (k + 1) X.A) (hg : Gl X x) (hm : X.mg x = some (.ref C)) (hb : KBn X.K fd ps 1 ks g gV) (hx : ∀ σ, PassesAt CX X σ (E σ)) (hkw : PK X kws tk)
    (hall : (backToKw pos (keywordEach kws X.env)).all (·.1.isSome) = true := by rfl) (hks : (backToKw pos (keywordEach kws X.env)).filterMap (·.1) = ks := by rfl) (hdb : (x == ("__debug__" : Str)) = false := by decide)
    (hpl : ((backTo pos (starEach [] X.env)).any (·.1) || (backToKw pos (keywordEach kws X.env)).any (·.1.isNone)) = false := by rfl) :
    PE X (.Call (.Name x p) [] kws pos) (tMakeKS C ks.length sp gV E tk) := by
  refine ⟨fun pins s σ H Q I h => ?_⟩
  refine wpAny_Call_Name_kw (ld_glob I hg hm ?_ hdb)
  refine PySem.W.callWith_KW0 (h₀ := X.base) I.ok.mod.kin M.kp hall ?_ hpl
  refine thn (hkw.run pos pins s σ H _ I h) fun ws s2 ⟨zs, H2, I2, rz, l2, q2⟩ => ⟨I2.kIn, ?_⟩
  rw [hks]
  exact run_makeKS (us := []) (vs := []) M F hr hb (hx σ) I2 .nil rz rfl l2 q2
end
end L2
namespace L2
open PySem PySem.Spec PyProof.Rows
/-! o.f = x, o.g = y, ..: many fields set from slots -/
def tFlds (K : PySem.W.Frag) : List (Nat × Str) → TS
  | [] => tNext
  | [p] => sFld K (tVar 0) (tVar p.1) p.2
  | p :: q :: r => tSeq (sFld K (tVar 0) (tVar p.1) p.2) (tFlds K (q :: r))
def valAt (σ : L2.St) (i : Nat) : V := (σ[i]?.join).getD .non
def putAll (σ : L2.St) : List (Nat × Str) → List (Str × V) → List (Str × V)
  | [], fs => fs
  | p :: r, fs => putAll σ r (putF p.2 (valAt σ p.1) fs)
theorem len_putF (f : Str) (v : V) : ∀ fs : List (Str × V), (putF f v fs).length ≤ fs.length + 1
  | [] => Nat.le_refl _
  | (g, x) :: r => by
    show (if g = f then (g, v) :: r else (g, x) :: putF f v r).length ≤ _
    have := len_putF f v r
    split <;> simp only [List.length_cons] <;> omega
theorem flds_ok {K : PySem.W.Frag} {o C dx : Addr} {σ : L2.St} {D : Ends} (cl : Cls K C) (h0 : σ[0]? = some (some (.ref o))) : ∀ (l : List (Nat × Str)) (fs : List (Str × V)) (H : Hp), fs.length + l.length ≤ 900 → l ≠ [] → (∀ p ∈ l, NoAttr K C p.2) → (∀ p ∈ l, ∃ v, σ[p.1]? = some (some v)) → H o = some (.ins C dx fs) →
    (∀ H', H' o = some (.ins C dx (putAll σ l fs)) → (∀ b x, b ≠ o → H b = some x → H' b = some x) → D.nx σ H') → tFlds K l D σ H
  | [], fs, H, hl, hne, hn, hv, ho, q => absurd rfl hne
  | [p], fs, H, hl, hne, hn, hv, ho, q => by
    obtain ⟨v, ev⟩ := hv p (List.mem_cons_self ..)
    refine ⟨v, ev, _, h0, o, C, dx, fs, rfl, ho, cl, hn p (List.mem_cons_self ..), by omega, q _ ?_ fun b x nb e => by rw [upd_ne nb]; exact e⟩
    rw [upd_same]
    show _ = some (HO.ins C dx (putF p.2 (valAt σ p.1) fs))
    unfold valAt
    rw [ev]; rfl
  | p :: p2 :: r, fs, H, hl, hne, hn, hv, ho, q => by
    obtain ⟨v, ev⟩ := hv p (List.mem_cons_self ..)
    have e1 : valAt σ p.1 = v := by unfold valAt; rw [ev]; rfl
    refine ⟨v, ev, _, h0, o, C, dx, fs, rfl, ho, cl, hn p (List.mem_cons_self ..), by omega, ?_⟩
    refine flds_ok cl h0 (p2 :: r) (putF p.2 v fs) _ ?_ (List.cons_ne_nil _ _) (fun x m => hn x (List.mem_cons_of_mem _ m)) (fun x m => hv x (List.mem_cons_of_mem _ m)) upd_same fun H' h1 h2 => ?_
    · have := len_putF p.2 v fs
      simp only [List.length_cons] at hl ⊢
      omega
    · refine q H' ?_ fun b x nb e => h2 b x nb (by rw [upd_ne nb]; exact e)
      show _ = some (HO.ins C dx (putAll σ (p2 :: r) (putF p.2 (valAt σ p.1) fs)))
      rw [e1]; exact h1
end L2
namespace Rd
open PySem PySem.Spec PyProof.Rows L2
variable {σ : L2.St} {H : Hp} {Q : VK} {tk tv : TA} {C : Addr} {n m : Nat} {sp : Sp} {gV : List V → List V → List V} {E : XK} {ES : L2.St → XK}
theorem callS (h : tv σ H fun vs H1 => sp vs H1 Q (ES σ)) : tCallS sp ES tv σ H Q := h
theorem mkS (h : tv σ H fun vs H1 => ∀ x dx, H1 x = none → H1 dx = none → dx ≠ x → sp (.ref x :: vs) (upd (upd H1 dx (.own x)) x (.ins C dx [])) (fun v H2 => v = .non ∧ Q (.ref x) H2) (ES σ)) : tMakeS C sp ES tv σ H Q := h
theorem mkKS (h : tk σ H fun zs H2 => zs.length = m ∧ ∀ x dx, H2 x = none → H2 dx = none → dx ≠ x → sp (gV [.ref x] zs) (upd (upd H2 dx (.own x)) x (.ins C dx [])) (fun v H3 => v = .non ∧ Q (.ref x) H3) (ES σ)) : tMakeKS C m sp gV ES tk σ H Q := h
theorem mkK (h : tv σ H fun vs H1 => tk σ H1 fun zs H2 => vs.length = n ∧ zs.length = m ∧ ∀ x dx, H2 x = none → H2 dx = none → dx ≠ x → sp (gV (.ref x :: vs) zs) (upd (upd H2 dx (.own x)) x (.ins C dx [])) (fun v H3 => v = .non ∧ Q (.ref x) H3) E) : tMakeK C n m sp gV E tv tk σ H Q := h
theorem callN (h : tv σ H fun vs H1 => tk σ H1 fun zs H2 => vs.length = n ∧ zs.length = m ∧ sp (gV vs zs) H2 Q E) : tCallN n m sp gV E tv tk σ H Q := h
end Rd

set_option Elab.async false
set_option linter.all false
namespace L2
open PySem PySem.Spec PyProof.Rows
theorem relabel_look {env : Env} : ∀ {names : List (Str × NameKind)} {x : Str}, (names.lookup x = some .cell ∨ names.lookup x = some .free) →
    ((names.map fun (n, k) => if (k == NameKind.free && env.scope.kind == .function && env.kindOf n == some .cell) then (n, NameKind.cell) else (n, k)).lookup x = some .cell ∨ (names.map fun (n, k) => if (k == NameKind.free && env.scope.kind == .function && env.kindOf n == some .cell) then (n, NameKind.cell) else (n, k)).lookup x = some .free)
  | [], _, h => by simp at h
  | (n, k) :: r, x, h => by
    have ih := @relabel_look env r x
    by_cases c : (k == NameKind.free && env.scope.kind == .function && env.kindOf n == some .cell) = true
    · show List.lookup x ((if (k == NameKind.free && env.scope.kind == .function && env.kindOf n == some .cell) = true then (n, NameKind.cell) else (n, k)) :: _) = _ ∨ List.lookup x ((if (k == NameKind.free && env.scope.kind == .function && env.kindOf n == some .cell) = true then (n, NameKind.cell) else (n, k)) :: _) = _
      rw [if_pos c]
      by_cases e : x = n
      · subst e
        rw [List.lookup_cons_self]
        exact .inl rfl
      · have ne : (x == n) = false := by simp [e]
        rw [List.lookup_cons, ne] at h
        rw [List.lookup_cons, ne]
        exact ih h
    · show List.lookup x ((if (k == NameKind.free && env.scope.kind == .function && env.kindOf n == some .cell) = true then (n, NameKind.cell) else (n, k)) :: _) = _ ∨ List.lookup x ((if (k == NameKind.free && env.scope.kind == .function && env.kindOf n == some .cell) = true then (n, NameKind.cell) else (n, k)) :: _) = _
      rw [if_neg c]
      by_cases e : x = n
      · subst e
        rw [List.lookup_cons_self] at h ⊢
        exact h
      · have ne : (x == n) = false := by simp [e]
        rw [List.lookup_cons, ne] at h
        rw [List.lookup_cons, ne]
        exact ih h
theorem blkOk_rel {N : List Str} {sc scope : Scope} {own : List (Str × Nat)} {env : Env} (h : blkC N sc scope own = true) : BlkOk N (relabel sc env) scope own := by
  obtain ⟨h1, h2, h3, h4, h5⟩ := blkOk_by h
  exact ⟨h1, h2, h3, fun y m e => relabel_look (h4 y m e), h5⟩
end L2

set_option Elab.async false
set_option linter.all false
set_option maxRecDepth 100000
/-! a dict display with one unpacked dict ahead of one pair: {**d, k: v} -/
namespace PySem
section
variable {prog : Program} {w : World} {K : Type} [DecidableEq K] {knd : KeyKind prog w K} {A : Around} {E : Value → Shared → Prop} {s : Shared}
theorem wpAny_dictPut_pairs {d : Addr} {kvs : List (K × Value)} {k : K} {key v : Value} {Q : Unit → Shared → Prop} (hkey : knd.is k key = true) (hm : s.heap.DictOf knd d kvs)
    (hQ : ∀ h', h'.DictOf knd d (stored kvs k v) → Heap.SameBut d s.heap h' → Q () { s with heap := h' })
    (hsz : kvs.length ≤ sizeLine) :
    wpAny (model prog w) A (dictPut d (knd.hash k) key v) Q E s := by
  obtain ⟨o, es, ep, ho, hc, hd, hk, hp, hn⟩ := hm
  have hes : es.size ≤ sizeLine := by have e1 := hp.length; have e2 : es.toList.length = es.size := by simp
                                      omega
  unfold dictPut
  refine wpAny_bind (wpAny_dictFind_of hkey ho hd hk ?_)
  have hidx : (es.findIdx? fun e => knd.is k e.key) = kvs.findIdx? fun kv => decide (kv.1 = k) := by
    rw [← hp.findIdx k]; obtain ⟨l⟩ := es; simp
  cases hi : es.findIdx? fun e => knd.is k e.key with
  | some i =>
    refine wpAny_updateDict ho hd (hQ _ ⟨_, _, ep, Heap.get?_update_self _ ho (Obj.isFreed_of_dict (Obj.data_mapDict hd _)),
      hc.mapDict _, Obj.data_mapDict hd _, hk.modify _ _, ?_, ?_⟩ (Heap.SameBut.update ..))
    · rw [stored, if_pos (any_of_findIdx_some (hidx ▸ hi))]
      have hl : (es.toList.findIdx? fun e => knd.is k e.key) = some i := by rw [← hi]; obtain ⟨l⟩ := es; simp
      have := hp.modify hn hl v
      obtain ⟨l⟩ := es
      simpa using this
    · rw [stored, if_pos (any_of_findIdx_some (hidx ▸ hi)), keys_map_store]; exact hn
  | none =>
    have hnot : k ∉ kvs.map (·.1) := not_mem_of_findIdx_none (hidx ▸ hi)
    have hany : ¬ (kvs.any fun kv => decide (kv.1 = k)) = true := by
      rw [List.any_eq_true]; rintro ⟨kv, hkv, he⟩
      exact hnot (List.mem_map.mpr ⟨kv, hkv, of_decide_eq_true he⟩)
    refine wpAny_updateDictKeys (hz := hes) ho hd (hQ _ ⟨_, _, ep + 1, Heap.get?_update_self _ ho (Obj.isFreed_of_dict (Obj.data_mapDictKeys hd _)),
      hc.mapDictKeys _, Obj.data_mapDictKeys hd _, hk.push hkey _, ?_, ?_⟩ (Heap.SameBut.update ..))
    · rw [stored, if_neg hany]
      have := hp.append hkey (knd.hash k) v
      obtain ⟨l⟩ := es
      simpa using this
    · rw [stored, if_neg hany, List.map_append, List.nodup_append]
      refine ⟨hn, by simp, ?_⟩
      intro a ha b hb
      simp only [List.map_cons, List.map_nil, List.mem_singleton] at hb
      subst hb
      exact fun e => hnot (e ▸ ha)
theorem wpAny_mergeMapping_dict {d o : Addr} {kvs more : List (K × Value)} {Q : Unit → Shared → Prop} (hdo : d ≠ o) (hoS : (o == sysModules) = false)
    (hd : s.heap.DictOf knd d kvs) (ho : s.heap.DictOf knd o more)
    (hQ : ∀ h', h'.DictOf knd d (merged kvs more) → h'.DictOf knd o more → Heap.SameBut d s.heap h' → Q () { s with heap := h' })
    (hsz : kvs.length + more.length ≤ sizeLine) :
    wpAny (model prog w) A (mergeMapping d (.ref o) false) Q E s := by
  obtain ⟨od, esd, epd, hod, hcd, hdd, hkd, hpd, hnd⟩ := id hd
  obtain ⟨oo, eso, epo, hoo, hco, hdo', hko, hpo, hno⟩ := id ho
  unfold mergeMapping
  refine wpAny_bind (wpAny_isInstance ho.typeIs isSubtype_dict_dict ?_)
  rw [if_pos rfl]
  refine wpAny_bind (wpAny_specialOf ho.typeIs F.slot_dict_iter.lookup ?_)
  have hlen : more.length = eso.size := by rw [← hpo.length]; simp
  have loop : wpAny (model prog w) A (do
      let l ← dictEntries o
      let epoch ← dictEpoch o
      forIn (List.range l.size) PUnit.unit fun i (_ : PUnit) => (do
          let l' ← dictEntries o
          match l'[i]? with
            | some e => do
              holding [e.key, e.val] (dictPut d e.hash e.key e.val)
              let ep' ← dictEpoch o
              if (ep' != epoch) = true then do
                  (unsupported "dict.changed-during-merge" : Sem PUnit)
                  pure (ForInStep.yield PUnit.unit)
                else pure (ForInStep.yield PUnit.unit)
            | _ => do
              (unsupported "dict.changed-during-merge" : Sem PUnit)
              pure (ForInStep.yield PUnit.unit) : Sem (ForInStep PUnit))
      pure ()) Q E s := by
    refine wpAny_bind (wpAny_dictEntries hoo hdo' ?_)
    refine wpAny_bind (wpAny_dictEpoch hoo hdo' ?_)
    refine wpAny_bind ?_
    rw [List.range_eq_range']
    refine wpAny_forIn_list _
      (fun rest _ s' => ∃ h' i, s' = { s with heap := h' } ∧ rest = List.range' i (eso.size - i) ∧ i ≤ eso.size ∧ h'.DictOf knd d (merged kvs (more.take i)) ∧ h'.get? o = some oo ∧ Heap.SameBut d s.heap h')
      _ ?_ ?_ _ _ ⟨s.heap, 0, rfl, by simp, Nat.zero_le _, by simpa [merged] using hd, hoo, Heap.SameBut.refl _ _⟩
    · rintro x rest b s' ⟨h', i, rfl, hr, hi, hd', hoo', hs'⟩
      have hlt : i < eso.size := by
        rcases Nat.lt_or_ge i eso.size with h | h
        · exact h
        · rw [Nat.sub_eq_zero_of_le h] at hr; simp at hr
      obtain ⟨rfl, hrest⟩ : x = i ∧ rest = List.range' (i + 1) (eso.size - (i + 1)) := by
        have e : eso.size - i = (eso.size - (i + 1)) + 1 := by omega
        rw [e, List.range'_succ] at hr
        injection hr with h1 h2
        exact ⟨h1, h2⟩
      refine wpAny_bind (wpAny_dictEntries hoo' hdo' ?_)
      rw [Array.getElem?_eq_getElem hlt]
      obtain ⟨kv, hkv⟩ : ∃ kv, more[x]? = some kv := ⟨more[x]'(by rw [hlen]; exact hlt), List.getElem?_eq_getElem _⟩
      obtain ⟨k, v⟩ := kv
      obtain ⟨hkey, hval⟩ := hpo.get? (e := eso[x]) (by simp [hlt]) hkv
      obtain ⟨k', hkey', hhash⟩ := hko eso[x] (Array.getElem_mem hlt)
      obtain rfl : k' = k := knd.inj _ _ _ hkey' hkey
      show wpAny _ _ (holding [eso[x].key, eso[x].val] (dictPut d eso[x].hash eso[x].key eso[x].val) >>= _) _ _ _
      rw [hhash, hval]
      have hmx : (merged kvs (more.take x)).length ≤ sizeLine := by
        have e1 := merged_length_le kvs (more.take x)
        have e2 : (more.take x).length ≤ more.length := by rw [List.length_take]; omega
        omega
      refine wpAny_bind (wpAny_holding (wpAny_dictPut_pairs (hsz := hmx) hkey hd' fun h'' hd'' hs'' => ?_))
      have hoo'' : h''.get? o = some oo := (hs''.2 o (Ne.symm hdo)).trans hoo'
      refine wpAny_bind (wpAny_dictEpoch hoo'' hdo' ?_)
      rw [if_neg (by simp)]
      exact wpAny_pure ⟨h'', x + 1, rfl, hrest, hlt, by rw [merged_take_succ kvs more x (k', v) hkv]; exact hd'', hoo'', hs'.trans hs''⟩
    · rintro b s' ⟨h', i, rfl, hr, hi, hd', hoo', hs'⟩
      have hin : i = eso.size := by
        rcases Nat.lt_or_ge i eso.size with h | h
        · have e : eso.size - i = (eso.size - (i + 1)) + 1 := by omega
          rw [e, List.range'_succ] at hr; exact nomatch hr
        · exact Nat.le_antisymm hi h
      refine wpAny_pure (hQ h' ?_ ⟨oo, eso, epo, hoo', hco, hdo', hko, hpo, hno⟩ hs')
      rw [hin, ← hlen, List.take_length] at hd'; exact hd'
  refine wpAny_bind (wpAny_pure ?_)
  rw [show (some (Value.builtin "dict.__iter__") == some (Value.builtin "dict.__iter__")) = true from beq_self_eq_true _]
  dsimp only
  rw [if_neg (by rw [hoS]; exact Bool.false_ne_true)]
  refine wpAny_bind (wpAny_dictEntries hod hdd ?_)
  split
  · refine wpAny_bind (wpAny_dictEntries hoo hdo' ?_)
    have hloop : (forIn eso PUnit.unit fun e (_ : PUnit) => (match e.key with
        | .ref _ => do
          let q ← specialOf e.key "__eq__"
          if (q != some (.builtin "object.__eq__")) = true then
            if (eso.filter (·.hash == e.hash)).size > 1 then (do let _ ← (unsupported "dict.merge-into-an-empty-dict:keys-of-equal-hash" : Sem PUnit); pure (ForInStep.yield PUnit.unit)) else pure (ForInStep.yield PUnit.unit)
          else pure (ForInStep.yield PUnit.unit)
        | _ => pure (ForInStep.yield PUnit.unit) : Sem (ForInStep PUnit))) = pure PUnit.unit := by
      rw [← Array.forIn_toList]
      refine forIn_yield_id _ fun e he c => ?_
      obtain ⟨k, hkey, _⟩ := hko e (Array.mem_toList_iff.mp he)
      have := knd.byValue k _ hkey
      cases e2 : e.key with
      | ref a => rw [e2] at this; cases this
      | _ => rfl
    exact wpAny_bind (wpAny_of_eq hloop loop)
  · exact loop
theorem dictDisplay_star (m : Sem Value) (kv : Sem Value × Sem Value) : dictDisplay [(none, m), (some kv.1, kv.2)] = (do
    let d ← alloc { cls := .type "dict", data := .dict #[] }
    let m ← holding [.ref d] m
    (((holding [.ref d, m] (mergeMapping d m false)).onRaise fun x => do let _ ← holding [.ref d, m, x] (runValue (.builtin "proto.let_go" {}))).tryCatch fun e => do
        if ← isInstance e (.type "AttributeError") then
          rule "dict.display.not-a-mapping"; raiseError "TypeError" s!"'{← typeNameOf m}' object is not a mapping"
        throw e).onRaise fun x => do let _ ← holding [.ref d, x] (runValue (.builtin "proto.let_go" {}))
    let sub ← holding [.ref d] (subDict [kv])
    (holding [.ref d, .ref sub] (mergeMapping d (.ref sub) false)).onRaise fun x => do let _ ← holding [.ref d, x] (runValue (.builtin "proto.let_go" {}))
    pure (.ref d)) := by
  unfold dictDisplay
  simp only [List.forIn_cons, List.forIn_nil, pure_bind, bind_assoc, List.isEmpty_nil, if_true, List.nil_append]
  simp
end
end PySem
namespace L2
open PySem PySem.Spec PyProof.Rows
def tDStar (td tk tv : TE) : TE := fun σ H Q => ∀ p, H p = none → td σ (upd H p (.dK [])) fun x H1 => ∃ a kvs, x = .ref a ∧ H1 p = some (.dK []) ∧ a ≠ p ∧ L2.Rd H1 a (.dK kvs) ∧ kvs.length ≤ 1000 ∧
  ∀ p2, (upd H1 p (.dK kvs)) p2 = none → tk σ (upd (upd H1 p (.dK kvs)) p2 (.dK [])) fun y H3 => tv σ H3 fun z H4 => H4 p = some (.dK kvs) ∧ H4 p2 = some (.dK []) ∧ p2 ≠ p ∧ ∃ key : Key, y = kV key ∧ Q (.ref p) (upd (upd H4 p2 (.dK [(key, z)])) p (.dK (putK kvs key z)))
theorem pe_dstar {X : Cx} {pos : Pos} {v k v2 : Expr} {td tk tv : TE} (hv : PE X v td) (hk : PE X k tk) (h2 : PE X v2 tv) : PE X (.Dict [none, some k] [v, v2] pos) (tDStar td tk tv) := by
  refine ⟨fun pins s σ H Q I q => ?_⟩
  have hn := I.hok.fresh (Nat.le_refl s.heap.objs.size)
  have I1 := I.laid (a := s.heap.objs.size) (o := .dK []) (h' := s.heap.push { cls := .type "dict", data := .dict #[] }) (t' := s.toks) (fun _ _ q => Heap.get?_push_of_some _ q) (Nat.le_refl _) (dk_empty s.heap I.big)
  rw [arm_eval_Dict]
  refine wpAny_bind (wpAny_standAt ?_)
  show wpAny _ _ (dictDisplay [(none, do let x ← eval v X.env; standAt pos; pure x), (some (eval k X.env), do let x ← eval v2 X.env; standAt pos; pure x)]) _ _ _
  rw [dictDisplay_star _ (_, _)]
  refine wpAny_bind (wpAny_alloc ?_)
  refine wpAny_bind (wpAny_holding (wpAny_bind (thn (hv.run pins _ σ _ _ I1 (q _ hn)) fun m s1 ⟨x, H1, I2, rx, a, kvs, ex, hp, ap, ha, lk, q1⟩ => ?_)))
  refine wpAny_bind (wpAny_standAt (wpAny_pure ?_))
  subst ex
  obtain rfl : m = Value.ref a := rx
  obtain ⟨za, hdS, vs, rk, da⟩ := dk_rd I2.hok ha
  obtain ⟨_, hdD, vs0, r0, dd⟩ := dk_of I2.hok hp
  cases r0
  have hne : s.heap.objs.size ≠ a := fun z => ap z.symm
  refine wpAny_bind (wpAny_onRaise (wpAny_tryCatch (wpAny_onRaise (wpAny_holding (wpAny_mergeMapping_dict (knd := mixKind X.prog X.w) hne hdS dd da (fun h' d' a' hs => ?_) ?_)))))
  · have hn2 : (vs.map (·.1)).Nodup := by obtain ⟨_, _, _, _, _, _, _, _, n⟩ := da; exact n
    rw [merged_nil_of_nodup vs hn2] at d'
    have he : ∃ q, h'.get? s.heap.objs.size = some q := let ⟨q, _, _, hq, _⟩ := d'; ⟨q, hq⟩
    have I3 := d_write (t' := s1.toks) I2 (by rw [hp]; exact True.intro) hs he (dk_new za hdD rk d')
    have hn3 := I3.hok.fresh (Nat.le_refl h'.objs.size)
    have I4 := I3.laid (a := h'.objs.size) (o := .dK []) (h' := h'.push { cls := .type "dict", data := .dict #[] }) (t' := s1.toks) (fun _ _ q => Heap.get?_push_of_some _ q) (Nat.le_refl _) (dk_empty h' I3.big)
    refine wpAny_bind (wpAny_holding (wpAny_subDict (knd := mixKind X.prog X.w) (by show 1 ≤ 15; decide) ?_))
    refine evalPairs_cons ?_
    refine thn (hk.run pins _ σ _ _ I4 (q1 _ hn3)) fun kv s3 ⟨y, H3, I5, ry, q3⟩ => ?_
    refine wpAny_bind (thn (h2.run pins _ σ _ _ I5 q3) fun zv s4 ⟨z, H4, I6, rz, hp4, hp24, np, key, ey, q4⟩ => ?_)
    refine wpAny_bind (wpAny_standAt (wpAny_pure (evalPairs_nil ?_)))
    subst ey
    obtain ⟨rs, cr, rk2⟩ := carries_of (P := X.prog) (w := X.w) (kvs := [(key, z)]) (ws := [(kv, zv)]) (.cons ⟨ry, rz⟩ .nil)
    obtain ⟨_, hd2S, vs2, r2, dd2⟩ := dk_of I6.hok hp24
    cases r2
    refine ⟨rs, cr, dd2, fun h5 d5 hs5 => ?_⟩
    have he5 : ∃ q, h5.get? h'.objs.size = some q := let ⟨q, _, _, hq, _⟩ := d5; ⟨q, hq⟩
    have I7 := d_write (t' := s4.toks + [(kv, zv)].length) I6 (by rw [hp24]; exact True.intro) hs5 he5 (dk_new (by rw [sizeLine_eq]; show 1 ≤ _; decide) hd2S (rk2.merge .nil) d5)
    have hp7 : upd H4 h'.objs.size (.dK (mergeK [] [(key, z)])) s.heap.objs.size = some (.dK kvs) := by rw [upd_ne np.symm]; exact hp4
    obtain ⟨_, _, vs7, r7, d7⟩ := dk_of I7.hok hp7
    obtain ⟨_, _, vs8, r8, d8⟩ := dk_of I7.hok (a := h'.objs.size) (kvs := [(key, z)]) upd_same
    have l7 : vs7.length = kvs.length := r7.length.symm
    have l8 : vs8.length = 1 := r8.length.symm
    refine wpAny_bind (wpAny_onRaise (wpAny_holding (wpAny_mergeMapping_dict (knd := mixKind X.prog X.w) np.symm hd2S d7 d8 (fun h9 d9 a9 hs9 => ?_) (by rw [sizeLine_eq, l7, l8]; omega))))
    refine wpAny_pure ?_
    have he9 : ∃ q, h9.get? s.heap.objs.size = some q := let ⟨q, _, _, hq, _⟩ := d9; ⟨q, hq⟩
    have I9 := d_write (t' := s4.toks + [(kv, zv)].length) I7 (by rw [hp7]; exact True.intro) hs9 he9 (dk_new (kvs := mergeK kvs [(key, z)]) (by rw [sizeLine_eq]; have := length_mergeK [(key, z)] kvs; simp at this; omega) hdD (r8.merge r7) d9)
    exact ⟨.ref s.heap.objs.size, _, I9, rfl, q4⟩
  · rw [sizeLine_eq]; show 0 + vs.length ≤ _
    have : vs.length = kvs.length := rk.length.symm
    omega
end L2

set_option Elab.async false
set_option linter.all false
set_option maxRecDepth 100000
/-! a op b op c op d; a rule of two; readings of {**d, k: v}, d.get(k), k not in d -/
namespace L2
open PySem PySem.Spec PyProof.Rows
section
variable {X : Cx} {a b c d e : Expr} {ta tb tc td : TE} {pos : Pos}
theorem pe_orr {t u : TE} (h1 : PE X e t) (h2 : PE X e u) : PE X e (fun σ H Q => t σ H Q ∨ u σ H Q) := ⟨fun pins s σ H Q I h => h.elim (h1.run pins s σ H Q I) (h2.run pins s σ H Q I)⟩
def tChain3 (r r' r'' : R2) (ta tb tc td : TE) : TE := fun σ H Q => ta σ H fun x H1 => tb σ H1 fun y H2 => r x y H2 fun z H3 => ∃ k, z = .bl k ∧
  (if k = true then tc σ H3 fun w' H4 => r' y w' H4 fun z2 H5 => ∃ k2, z2 = .bl k2 ∧ (if k2 = true then td σ H5 fun v' H6 => r'' w' v' H6 Q else Q (.bl false) H5) else Q (.bl false) H3)
theorem pe_chain3 {op op' op'' : CmpOp} {r r' r'' : R2} (ho : OpR X (compareOp op) r) (ho' : OpR X (compareOp op') r') (ho'' : OpR X (compareOp op'') r'') (ha : PE X a ta) (hb : PE X b tb) (hc : PE X c tc) (hd : PE X d td)
    (hm : lastMarks [op, op', op''] [b, c, d] = false := by with_unfolding_all rfl) : PE X (.Compare a [op, op', op''] [b, c, d] pos) (tChain3 r r' r'' ta tb tc td) := by
  refine ⟨fun pins s σ H Q I h => ?_⟩
  refine Compare_chain (thn (ha.run pins s σ H _ I h) fun v s1 ⟨x, H1, I1, r1, q1⟩ => chain_link (thn (hb.run pins s1 σ H1 _ I1 q1) fun u s2 ⟨y, H2, I2, r2, q2⟩ =>
    thn (ho pins s2 σ H2 x y v u _ I2 r1 r2 q2) fun d s3 ⟨z, H3, I3, r3, k, e, q3⟩ => ?_)) hm
  subst e
  cases r3
  refine wpAny_truthy_bool ?_
  cases k with
  | false => exact ite_ff ⟨.bl false, H3, I3, rfl, q3⟩
  | true =>
    refine ite_tt (chain_link (thn (hc.run pins s3 σ H3 _ I3 q3) fun u2 s4 ⟨y2, H4, I4, r4, q4⟩ =>
      thn (ho' pins s4 σ H4 y y2 u u2 _ I4 r2 r4 q4) fun d s5 ⟨z, H5, I5, r5, k2, e, q5⟩ => ?_))
    subst e
    cases r5
    refine wpAny_truthy_bool ?_
    cases k2 with
    | false => exact ite_ff ⟨.bl false, H5, I5, rfl, q5⟩
    | true => exact ite_tt (chain_last (thn (hd.run pins s5 σ H5 _ I5 q5) fun w' s6 ⟨z', H6, I6, r6, q6⟩ => ho'' pins s6 σ H6 y2 z' u2 w' Q I6 r4 r6 q6))
end
end L2
namespace Rd
open PySem PySem.Spec PyProof.Rows L2
variable {K : PySem.W.Frag} {σ : L2.St} {H : Hp} {D : Ends} {Q : VK} {ta tb te tc td tk tv ty tx : TE} {x y v : V}
theorem chain3 {r r' r'' : R2} (h : ta σ H fun x H1 => tb σ H1 fun y H2 => r x y H2 fun z H3 => ∃ k, z = .bl k ∧
  (if k = true then tc σ H3 fun w' H4 => r' y w' H4 fun z2 H5 => ∃ k2, z2 = .bl k2 ∧ (if k2 = true then td σ H5 fun v' H6 => r'' w' v' H6 Q else Q (.bl false) H5) else Q (.bl false) H3)) : tChain3 r r' r'' ta tb tc td σ H Q := h
theorem orL {t u : TE} (h : t σ H Q) : (fun σ H Q => t σ H Q ∨ u σ H Q : TE) σ H Q := .inl h
theorem orR {t u : TE} (h : u σ H Q) : (fun σ H Q => t σ H Q ∨ u σ H Q : TE) σ H Q := .inr h
theorem dnotS {a : Addr} {m : List (Str × V)} {k : Str} (h : H a = some (DS m)) (q : Q (.bl (!(lks m k).isSome)) H) : DnotG Q (.ref a) (.str k) H := ⟨a, _, rfl, get_ds (.inl h), q⟩
theorem dnotSq {a : Addr} {m : List (Str × V)} {k : Str} (h : L2.Rd H a (DS m)) (q : Q (.bl (!(lks m k).isSome)) H) : DnotG Q (.ref a) (.str k) H := ⟨a, _, rfl, get_ds h, q⟩
def Dg1G (Q : VK) (a : Addr) (y : V) (H : Hp) : Prop := ∃ o, DGet H a y o ∧ Q (o.getD .non) H
theorem dget1 (h : td σ H fun x H1 => ∃ a, x = .ref a ∧ IsD H1 a ∧ ty σ H1 fun y H2 => Dg1G Q a y H2) : tDGet1 td ty σ H Q := h
theorem isdS {a : Addr} {m : List (Str × V)} {A : Prop} (h : H a = some (DS m)) (q : A) : IsD H a ∧ A := ⟨.inl ⟨_, .inl h⟩, q⟩
theorem dget1S {a : Addr} {m : List (Str × V)} {k : Str} (h : H a = some (DS m)) (q : Q ((lks m k).getD .non) H) : Dg1G Q a (.str k) H := ⟨_, get_ds (.inl h), q⟩
/-- {**d, k: v}: a new dict -/
def DStG (Q : VK) (p : Addr) (tk tv : TE) (σ : L2.St) (x : V) (H1 : Hp) : Prop := ∃ a kvs, x = .ref a ∧ H1 p = some (.dK []) ∧ a ≠ p ∧ L2.Rd H1 a (.dK kvs) ∧ kvs.length ≤ 1000 ∧
  ∀ p2, (upd H1 p (.dK kvs)) p2 = none → tk σ (upd (upd H1 p (.dK kvs)) p2 (.dK [])) fun y H3 => tv σ H3 fun z H4 => H4 p = some (.dK kvs) ∧ H4 p2 = some (.dK []) ∧ p2 ≠ p ∧ ∃ key : Key, y = kV key ∧ Q (.ref p) (upd (upd H4 p2 (.dK [(key, z)])) p (.dK (putK kvs key z)))
theorem dstar (h : ∀ p H', H p = none → Same H H' → H' p = some (.dK []) → td σ H' fun x H1 => DStG Q p tk tv σ x H1) : tDStar td tk tv σ H Q := fun p np => h p _ np (same_new np) upd_same
end Rd

set_option Elab.async false
set_option linter.all false
set_option maxRecDepth 100000
set_option maxHeartbeats 1000000
--@@rec _check_statements _check_statement

--@@guards
namespace Mine
open PySem PySem.Spec PyProof.Rows L2
local macro_rules | `(tactic| walk_at "my gdN") => `(tactic| with_reducible refine Rd.n15 ?_)
local macro_rules | `(tactic| walk_at "my gdN") => `(tactic| with_reducible refine Rd.n14 ?_)
local macro_rules | `(tactic| walk_at "my gdN") => `(tactic| with_reducible refine Rd.n13 ?_)
local macro_rules | `(tactic| walk_at "my gdN") => `(tactic| with_reducible refine Rd.n12 ?_)
local macro_rules | `(tactic| walk_at "my gdN") => `(tactic| with_reducible refine Rd.n11 ?_)
local macro_rules | `(tactic| walk_at "my gdN") => `(tactic| with_reducible refine Rd.n10 ?_)
local macro_rules | `(tactic| walk_at "my gdN") => `(tactic| with_reducible refine Rd.n9 ?_)
local macro_rules | `(tactic| walk_at "my gdN") => `(tactic| with_reducible refine Rd.n8 ?_)
local macro_rules | `(tactic| walk_at "my gdN") => `(tactic| with_reducible refine Rd.n7 ?_)
local macro_rules | `(tactic| walk_at "my gdN") => `(tactic| with_reducible refine Rd.n6 ?_)
local macro_rules | `(tactic| walk_at "my gdN") => `(tactic| with_reducible refine Rd.n5 ?_)
local macro_rules | `(tactic| walk_at "my gdN") => `(tactic| with_reducible refine Rd.n4 ?_)
local macro_rules | `(tactic| walk_at "my gdN") => `(tactic| with_reducible refine Rd.n3 ?_)
local macro_rules | `(tactic| walk_at "my gdN") => `(tactic| with_reducible refine Rd.n2 ?_)
local macro_rules | `(tactic| walk_at "my gdN") => `(tactic| with_reducible refine Rd.n1 ?_)
local macro_rules | `(tactic| walk_at "my gdN") => `(tactic| with_reducible refine Rd.n0 ?_)
local macro_rules | `(tactic| walk_at "my gdI") => `(tactic| ((with_reducible refine Rd.isi_td (by assumption) ?_)))
local macro_rules | `(tactic| walk_at "my gdI") => `(tactic| ((with_reducible refine Rd.isi_tt (by assumption) ?_)))
local macro_rules | `(tactic| walk_at "my gdI") => `(tactic| ((with_reducible refine Rd.isi_tl (by assumption) ?_)))
local macro_rules | `(tactic| walk_at "my gdI") => `(tactic| ((with_reducible refine Rd.isi_ts (by assumption) ?_)))
local macro_rules | `(tactic| walk_at "my gdI") => `(tactic| ((with_reducible refine Rd.isi_tb (by assumption) ?_)))
local macro_rules | `(tactic| walk_at "my gdI") => `(tactic| ((with_reducible refine Rd.isi_ti (by assumption) ?_)))
local macro_rules | `(tactic| walk_at "my gdI") => `(tactic| ((with_reducible refine Rd.isi_ld (by assumption) ?_)))
local macro_rules | `(tactic| walk_at "my gdI") => `(tactic| ((with_reducible refine Rd.isi_lt (by assumption) ?_)))
local macro_rules | `(tactic| walk_at "my gdI") => `(tactic| ((with_reducible refine Rd.isi_ll (by assumption) ?_)))
local macro_rules | `(tactic| walk_at "my gdI") => `(tactic| ((with_reducible refine Rd.isi_ls (by assumption) ?_)))
local macro_rules | `(tactic| walk_at "my gdI") => `(tactic| ((with_reducible refine Rd.isi_lb (by assumption) ?_)))
local macro_rules | `(tactic| walk_at "my gdI") => `(tactic| ((with_reducible refine Rd.isi_li (by assumption) ?_)))
local macro_rules | `(tactic| walk_at "my gdI") => `(tactic| ((with_reducible refine Rd.isi_dd (by assumption) ?_)))
local macro_rules | `(tactic| walk_at "my gdI") => `(tactic| with_reducible refine Rd.isi_nd ?_)
local macro_rules | `(tactic| walk_at "my gdI") => `(tactic| with_reducible refine Rd.isi_nt ?_)
local macro_rules | `(tactic| walk_at "my gdI") => `(tactic| with_reducible refine Rd.isi_nl ?_)
local macro_rules | `(tactic| walk_at "my gdI") => `(tactic| with_reducible refine Rd.isi_ns ?_)
local macro_rules | `(tactic| walk_at "my gdI") => `(tactic| with_reducible refine Rd.isi_nb ?_)
local macro_rules | `(tactic| walk_at "my gdI") => `(tactic| with_reducible refine Rd.isi_ni ?_)
local macro_rules | `(tactic| walk_at "my gdI") => `(tactic| with_reducible refine Rd.isi_sd ?_)
local macro_rules | `(tactic| walk_at "my gdI") => `(tactic| with_reducible refine Rd.isi_st ?_)
local macro_rules | `(tactic| walk_at "my gdI") => `(tactic| with_reducible refine Rd.isi_sl ?_)
local macro_rules | `(tactic| walk_at "my gdI") => `(tactic| with_reducible refine Rd.isi_ss ?_)
local macro_rules | `(tactic| walk_at "my gdI") => `(tactic| with_reducible refine Rd.isi_sb ?_)
local macro_rules | `(tactic| walk_at "my gdI") => `(tactic| with_reducible refine Rd.isi_si ?_)
local macro_rules | `(tactic| walk_at "my gdI") => `(tactic| with_reducible refine Rd.isi_bd ?_)
local macro_rules | `(tactic| walk_at "my gdI") => `(tactic| with_reducible refine Rd.isi_bt ?_)
local macro_rules | `(tactic| walk_at "my gdI") => `(tactic| with_reducible refine Rd.isi_bl ?_)
local macro_rules | `(tactic| walk_at "my gdI") => `(tactic| with_reducible refine Rd.isi_bs ?_)
local macro_rules | `(tactic| walk_at "my gdI") => `(tactic| with_reducible refine Rd.isi_bb ?_)
local macro_rules | `(tactic| walk_at "my gdI") => `(tactic| with_reducible refine Rd.isi_bi ?_)
local macro_rules | `(tactic| walk_at "my gdI") => `(tactic| with_reducible refine Rd.isi_id ?_)
local macro_rules | `(tactic| walk_at "my gdI") => `(tactic| with_reducible refine Rd.isi_it ?_)
local macro_rules | `(tactic| walk_at "my gdI") => `(tactic| with_reducible refine Rd.isi_il ?_)
local macro_rules | `(tactic| walk_at "my gdI") => `(tactic| with_reducible refine Rd.isi_is ?_)
local macro_rules | `(tactic| walk_at "my gdI") => `(tactic| with_reducible refine Rd.isi_ib ?_)
local macro_rules | `(tactic| walk_at "my gdI") => `(tactic| with_reducible refine Rd.isi_ii ?_)
local macro_rules | `(tactic| walk_at "my gdG") => `(tactic| with_reducible refine Rd.g15 ?_)
local macro_rules | `(tactic| walk_at "my gdG") => `(tactic| with_reducible refine Rd.g14 ?_)
local macro_rules | `(tactic| walk_at "my gdG") => `(tactic| with_reducible refine Rd.g13 ?_)
local macro_rules | `(tactic| walk_at "my gdG") => `(tactic| with_reducible refine Rd.g12 ?_)
local macro_rules | `(tactic| walk_at "my gdG") => `(tactic| with_reducible refine Rd.g11 ?_)
local macro_rules | `(tactic| walk_at "my gdG") => `(tactic| with_reducible refine Rd.g10 ?_)
local macro_rules | `(tactic| walk_at "my gdG") => `(tactic| with_reducible refine Rd.g9 ?_)
local macro_rules | `(tactic| walk_at "my gdG") => `(tactic| with_reducible refine Rd.g8 ?_)
local macro_rules | `(tactic| walk_at "my gdG") => `(tactic| with_reducible refine Rd.g7 ?_)
local macro_rules | `(tactic| walk_at "my gdG") => `(tactic| with_reducible refine Rd.g6 ?_)
local macro_rules | `(tactic| walk_at "my gdG") => `(tactic| with_reducible refine Rd.g5 ?_)
local macro_rules | `(tactic| walk_at "my gdG") => `(tactic| with_reducible refine Rd.g4 ?_)
local macro_rules | `(tactic| walk_at "my gdG") => `(tactic| with_reducible refine Rd.g3 ?_)
local macro_rules | `(tactic| walk_at "my gdG") => `(tactic| with_reducible refine Rd.g2 ?_)
local macro_rules | `(tactic| walk_at "my gdG") => `(tactic| with_reducible refine Rd.g1 ?_)
local macro_rules | `(tactic| walk_at "my gdG") => `(tactic| with_reducible refine Rd.g0 ?_)
local macro_rules | `(tactic| walk_at "my rn1") => `(tactic| ((with_reducible refine Rd.gdG ?_); walk_at "my gdG"))
local macro_rules | `(tactic| walk_at "my rn1") => `(tactic| ((with_reducible refine Rd.gdI ?_); walk_at "my gdI"))
local macro_rules | `(tactic| walk_at "my rn1") => `(tactic| ((with_reducible apply Rd.srtIo); assumption))
local macro_rules | `(tactic| walk_at "my rn1") => `(tactic| ((with_reducible apply Rd.srtI); assumption))
local macro_rules | `(tactic| walk_at "my rn1") => `(tactic| ((with_reducible apply Rd.slq); assumption))
local macro_rules | `(tactic| walk_at "my rn1") => `(tactic| ((with_reducible apply Rd.slo); assumption))
local macro_rules | `(tactic| walk_at "my rn1") => `(tactic| ((with_reducible apply Rd.listOfq); assumption))
local macro_rules | `(tactic| walk_at "my rn1") => `(tactic| ((with_reducible apply Rd.listOf); assumption))
local macro_rules | `(tactic| walk_at "my rn1") => `(tactic| ((with_reducible apply Rd.ikA); first | assumption | exact upd_same))
local macro_rules | `(tactic| walk_at "my rn1") => `(tactic| ((with_reducible apply Rd.itA); first | assumption | exact upd_same))
local macro_rules | `(tactic| walk_at "my rn1") => `(tactic| ((with_reducible apply Rd.dictOf); assumption))
local macro_rules | `(tactic| walk_at "my rn1") => `(tactic| ((with_reducible apply Rd.isd); assumption))
local macro_rules | `(tactic| walk_at "my rn1") => `(tactic| ((with_reducible refine Rd.nwL ?_ ?_); exact Nat.le_of_ble_eq_true rfl))
local macro_rules | `(tactic| walk_at "my rn1") => `(tactic| ((with_reducible refine Rd.nwT ?_ ?_); exact Nat.le_of_ble_eq_true rfl))
local macro_rules | `(tactic| walk_at "my rn1") => `(tactic| ((with_reducible apply Rd.lenT); first | assumption | exact upd_same))
local macro_rules | `(tactic| walk_at "my rn1") => `(tactic| ((with_reducible apply Rd.lenL); first | assumption | exact upd_same))
local macro_rules | `(tactic| walk_at "my rn1") => `(tactic| ((with_reducible apply Rd.enA); first | assumption | exact upd_same))
local macro_rules | `(tactic| walk_at "my rn1") => `(tactic| ((with_reducible apply Rd.stA); first | assumption | exact upd_same))
local macro_rules | `(tactic| walk_at "my rn1") => `(tactic| ((with_reducible apply Rd.sqA); first | assumption | exact upd_same))
local macro_rules | `(tactic| walk_at "my rn1") => `(tactic| ((with_reducible apply Rd.lenTq); assumption))
local macro_rules | `(tactic| walk_at "my rn1") => `(tactic| ((with_reducible apply Rd.lenLq); assumption))
local macro_rules | `(tactic| walk_at "my rn1") => `(tactic| ((with_reducible apply Rd.enAq); assumption))
local macro_rules | `(tactic| walk_at "my rn1") => `(tactic| ((with_reducible apply Rd.stAq); assumption))
local macro_rules | `(tactic| walk_at "my rn1") => `(tactic| ((with_reducible apply Rd.sqAq); assumption))
local macro_rules | `(tactic| walk_at "my rn1") => `(tactic| ((with_reducible apply Rd.gtupq); assumption; exact rfl))
local macro_rules | `(tactic| walk_at "my rn1") => `(tactic| ((with_reducible apply Rd.gtup); (first | assumption | exact upd_same); exact rfl))
local macro_rules | `(tactic| walk_at "my rn1") => `(tactic| ((with_reducible apply Rd.ixTq); assumption; exact rfl))
local macro_rules | `(tactic| walk_at "my rn1") => `(tactic| ((with_reducible apply Rd.ixLq); assumption; exact rfl))
local macro_rules | `(tactic| walk_at "my rn1") => `(tactic| ((with_reducible apply Rd.ixT); (first | assumption | exact upd_same); exact rfl))
local macro_rules | `(tactic| walk_at "my rn1") => `(tactic| ((with_reducible apply Rd.ixL); (first | assumption | exact upd_same); exact rfl))
local macro_rules | `(tactic| walk_at "my rn1") => `(tactic| ((with_reducible apply Rd.tyLq); assumption))
local macro_rules | `(tactic| walk_at "my rn1") => `(tactic| ((with_reducible apply Rd.tyL); first | assumption | exact upd_same))
local macro_rules | `(tactic| walk_at "my rn1") => `(tactic| ((with_reducible refine Rd.I ?_ ?_); first | assumption | decide | exact Or.inr (by decide +kernel) | exact Or.inl (by decide +kernel) | exact ⟨by decide, by decide⟩ | exact ⟨by decide, by decide, by decide⟩ | omega | exact ⟨by omega, by omega⟩))
local macro_rules | `(tactic| walk_at "my rn1") => `(tactic| ((with_reducible refine Rd.szA ?_ ?_); exact Nat.le_of_ble_eq_true rfl))
local macro_rules | `(tactic| walk_at "my rn1") => `(tactic| ((with_reducible refine Rd.ne ?_ ?_); exact rfl))
local macro_rules | `(tactic| walk_at "my rn1") => `(tactic| ((with_reducible refine Rd.eq ?_ ?_); exact rfl))
local macro_rules | `(tactic| walk_at "my rn1") => `(tactic| ((with_reducible refine Rd.mtON ?_ ?_); exact rfl))
local macro_rules | `(tactic| walk_at "my rn1") => `(tactic| ((with_reducible refine Rd.mtOY ?_ ?_); exact rfl))
local macro_rules | `(tactic| walk_at "my rn1") => `(tactic| ((with_reducible refine Rd.mtNo ?_ ?_); (first | assumption | decide +kernel)))
local macro_rules | `(tactic| walk_at "my rn1") => `(tactic| ((with_reducible refine Rd.mtYes ?_ ?_); exact rfl))
local macro_rules | `(tactic| walk_at "my rn1") => `(tactic| ((with_reducible refine Rd.mtLen ?_ ?_); exact rfl))
local macro_rules | `(tactic| walk_at "my rn1") => `(tactic| ((with_reducible apply Rd.mtqI); (first | assumption | exact SqT.of upd_same | exact SqT.of (by assumption)); exact Nat.le_of_ble_eq_true rfl))
local macro_rules | `(tactic| walk_at "my rn1") => `(tactic| with_reducible refine Rd.moEnd ?_)
local macro_rules | `(tactic| walk_at "my rn1") => `(tactic| with_reducible refine Rd.moRest ?_)
local macro_rules | `(tactic| walk_at "my rn1") => `(tactic| with_reducible refine Rd.mtoI ?_)
local macro_rules | `(tactic| walk_at "my rn1") => `(tactic| with_reducible refine Rd.mto ?_)
local macro_rules | `(tactic| walk_at "my rn1") => `(tactic| with_reducible refine Rd.tbN ?_)
local macro_rules | `(tactic| walk_at "my rn1") => `(tactic| with_reducible refine Rd.tbA ?_)
local macro_rules | `(tactic| walk_at "my rn1") => `(tactic| with_reducible refine Rd.tbT ?_)
local macro_rules | `(tactic| walk_at "my rn1") => `(tactic| with_reducible refine Rd.tbC ?_)
local macro_rules | `(tactic| walk_at "my rn1") => `(tactic| with_reducible refine Rd.mtEnd ?_)
local macro_rules | `(tactic| walk_at "my rn1") => `(tactic| with_reducible refine Rd.mtRest ?_)
local macro_rules | `(tactic| walk_at "my rn1") => `(tactic| with_reducible refine Rd.mtq ?_)
local macro_rules | `(tactic| walk_at "my rn1") => `(tactic| with_reducible refine Rd.mchRest ?_)
local macro_rules | `(tactic| walk_at "my rn1") => `(tactic| with_reducible refine Rd.mchI ?_)
local macro_rules | `(tactic| walk_at "my rn1") => `(tactic| with_reducible refine Rd.mch ?_)
local macro_rules | `(tactic| walk_at "my rn1") => `(tactic| ((with_reducible apply Rd.isdS); assumption))
local macro_rules | `(tactic| walk_at "my rn1") => `(tactic| ((with_reducible refine Rd.izI (by assumption) (by assumption) ?_)))
local macro_rules | `(tactic| walk_at "my rn1") => `(tactic| ((with_reducible apply Rd.sumL); assumption))
local macro_rules | `(tactic| walk_at "my rn1") => `(tactic| ((with_reducible apply Rd.anyL); assumption))
local macro_rules | `(tactic| walk_at "my rn1") => `(tactic| ((with_reducible apply Rd.maxL); assumption))
local macro_rules | `(tactic| walk_at "my rn1") => `(tactic| ((with_reducible apply Rd.sfldI); (first | assumption | exact upd_same); assumption; assumption; exact Nat.le_of_ble_eq_true rfl))
local macro_rules | `(tactic| walk_at "my rn1") => `(tactic| ((with_reducible apply Rd.methI); (first | assumption | exact upd_same); (first | assumption | with_unfolding_all rfl)))
local macro_rules | `(tactic| walk_at "my rn1") => `(tactic| ((with_reducible apply Rd.fldI); (first | assumption | exact upd_same); assumption; assumption; (first | assumption | with_unfolding_all rfl)))
local macro_rules | `(tactic| walk_at "my rn1") => `(tactic| ((with_reducible apply Rd.revq); first | assumption | exact SqL.of (by assumption)))
local macro_rules | `(tactic| walk_at "my rn1") => `(tactic| ((with_reducible apply Rd.gtP); assumption; assumption))
local macro_rules | `(tactic| walk_at "my rn1") => `(tactic| ((with_reducible apply Rd.glst); (first | assumption | exact upd_same); exact rfl))
local macro_rules | `(tactic| walk_at "my rn1") => `(tactic| with_reducible refine Rd.sl ?_)
local macro_rules | `(tactic| walk_at "my rn1") => `(tactic| with_reducible refine Rd.ifnF ?_)
local macro_rules | `(tactic| walk_at "my rn1") => `(tactic| with_reducible refine Rd.ifnT ?_)
local macro_rules | `(tactic| walk_at "my rn1") => `(tactic| with_reducible refine Rd.ifF ?_)
local macro_rules | `(tactic| walk_at "my rn1") => `(tactic| with_reducible refine Rd.ifT ?_)
local macro_rules | `(tactic| walk_at "my rn1") => `(tactic| with_reducible refine Rd.yes ?_)
local macro_rules | `(tactic| walk_at "my rn1") => `(tactic| with_reducible refine Rd.strA ?_)
local macro_rules | `(tactic| walk_at "my rn1") => `(tactic| with_reducible refine Rd.refA ?_)
local macro_rules | `(tactic| walk_at "my rn1") => `(tactic| with_reducible refine Rd.istr ?_)
local macro_rules | `(tactic| walk_at "my rn1") => `(tactic| with_reducible refine Rd.ienum ?_)
local macro_rules | `(tactic| walk_at "my rn1") => `(tactic| with_reducible refine Rd.irng2 ?_)
local macro_rules | `(tactic| walk_at "my rn1") => `(tactic| with_reducible refine Rd.irng1 ?_)
local macro_rules | `(tactic| walk_at "my rn1") => `(tactic| with_reducible refine Rd.itup ?_)
local macro_rules | `(tactic| walk_at "my rn1") => `(tactic| with_reducible refine Rd.ilist ?_)
local macro_rules | `(tactic| walk_at "my rn1") => `(tactic| with_reducible refine Rd.for_ ?_)
local macro_rules | `(tactic| walk_at "my rn1") => `(tactic| with_reducible refine Rd.lc ?_)
local macro_rules | `(tactic| walk_at "my rn1") => `(tactic| with_reducible refine Rd.intI ?_)
local macro_rules | `(tactic| walk_at "my rn1") => `(tactic| with_reducible refine Rd.tyS ?_)
local macro_rules | `(tactic| walk_at "my rn1") => `(tactic| with_reducible refine Rd.rf ?_)
local macro_rules | `(tactic| walk_at "my rn1") => `(tactic| with_reducible refine Rd.chain ?_)
local macro_rules | `(tactic| walk_at "my rn1") => `(tactic| with_reducible refine Rd.isN ?_)
local macro_rules | `(tactic| walk_at "my rn1") => `(tactic| with_reducible refine Rd.sub ?_)
local macro_rules | `(tactic| walk_at "my rn1") => `(tactic| with_reducible refine Rd.gnil ?_)
local macro_rules | `(tactic| walk_at "my rn1") => `(tactic| with_reducible refine Rd.gcons ?_)
local macro_rules | `(tactic| walk_at "my rn1") => `(tactic| with_reducible refine Rd.ints2 ?_)
local macro_rules | `(tactic| walk_at "my rn1") => `(tactic| with_reducible refine Rd.ints1 ?_)
local macro_rules | `(tactic| walk_at "my rn1") => `(tactic| with_reducible refine Rd.int1 ?_)
local macro_rules | `(tactic| walk_at "my rn1") => `(tactic| with_reducible refine Rd.part ?_)
local macro_rules | `(tactic| walk_at "my rn1") => `(tactic| with_reducible refine Rd.nopart ?_)
local macro_rules | `(tactic| walk_at "my rn1") => `(tactic| with_reducible refine Rd.bm0 ?_)
local macro_rules | `(tactic| walk_at "my rn1") => `(tactic| with_reducible refine Rd.bm ?_)
local macro_rules | `(tactic| walk_at "my rn1") => `(tactic| with_reducible refine Rd.cb ?_)
local macro_rules | `(tactic| walk_at "my rn1") => `(tactic| with_reducible refine Rd.call ?_)
local macro_rules | `(tactic| walk_at "my rn1") => `(tactic| with_reducible refine Rd.ip ?_)
local macro_rules | `(tactic| walk_at "my rn1") => `(tactic| with_reducible refine Rd.U ?_)
local macro_rules | `(tactic| walk_at "my rn1") => `(tactic| with_reducible refine Rd.un ?_)
local macro_rules | `(tactic| walk_at "my rn1") => `(tactic| with_reducible refine Rd.notV ?_)
local macro_rules | `(tactic| walk_at "my rn1") => `(tactic| with_reducible refine Rd.orV ?_)
local macro_rules | `(tactic| walk_at "my rn1") => `(tactic| with_reducible refine Rd.andV ?_)
local macro_rules | `(tactic| walk_at "my rn1") => `(tactic| with_reducible refine Rd.ife ?_)
local macro_rules | `(tactic| walk_at "my rn1") => `(tactic| with_reducible refine Rd.retN ?_)
local macro_rules | `(tactic| walk_at "my rn1") => `(tactic| with_reducible refine Rd.cont ?_)
local macro_rules | `(tactic| walk_at "my rn1") => `(tactic| with_reducible refine Rd.brk ?_)
local macro_rules | `(tactic| walk_at "my rn1") => `(tactic| with_reducible refine Rd.cbSrtI ?_)
local macro_rules | `(tactic| walk_at "my rn1") => `(tactic| with_reducible refine Rd.slN ?_)
local macro_rules | `(tactic| walk_at "my rn1") => `(tactic| with_reducible refine Rd.catI ?_)
local macro_rules | `(tactic| walk_at "my rn1") => `(tactic| with_reducible refine Rd.cbListOfR ?_)
local macro_rules | `(tactic| walk_at "my rn1") => `(tactic| with_reducible refine Rd.cbListOf ?_)
local macro_rules | `(tactic| walk_at "my rn1") => `(tactic| with_reducible refine Rd.lstN ?_)
local macro_rules | `(tactic| walk_at "my rn1") => `(tactic| with_reducible refine Rd.tupN ?_)
local macro_rules | `(tactic| walk_at "my rn1") => `(tactic| with_reducible refine Rd.nwD ?_)
local macro_rules | `(tactic| walk_at "my rn1") => `(tactic| with_reducible refine Rd.dc ?_)
local macro_rules | `(tactic| walk_at "my rn1") => `(tactic| with_reducible refine Rd.ikeys ?_)
local macro_rules | `(tactic| walk_at "my rn1") => `(tactic| with_reducible refine Rd.iitems ?_)
local macro_rules | `(tactic| walk_at "my rn1") => `(tactic| with_reducible refine Rd.cbDictOf ?_)
local macro_rules | `(tactic| walk_at "my rn1") => `(tactic| with_reducible refine Rd.dput ?_)
local macro_rules | `(tactic| walk_at "my rn1") => `(tactic| with_reducible refine Rd.dget2 ?_)
local macro_rules | `(tactic| walk_at "my rn1") => `(tactic| with_reducible refine Rd.dget ?_)
local macro_rules | `(tactic| walk_at "my rn1") => `(tactic| with_reducible refine Rd.dnot ?_)
local macro_rules | `(tactic| walk_at "my rn1") => `(tactic| with_reducible refine Rd.din ?_)
local macro_rules | `(tactic| walk_at "my rn1") => `(tactic| with_reducible refine Rd.dnew ?_)
local macro_rules | `(tactic| walk_at "my rn1") => `(tactic| with_reducible refine Rd.dsp ?_)
local macro_rules | `(tactic| walk_at "my rn1") => `(tactic| with_reducible refine Rd.pnil ?_)
local macro_rules | `(tactic| walk_at "my rn1") => `(tactic| with_reducible refine Rd.pcons ?_)
local macro_rules | `(tactic| walk_at "my rn1") => `(tactic| with_reducible refine Rd.disp ?_)
local macro_rules | `(tactic| walk_at "my rn1") => `(tactic| with_reducible refine Rd.ddel ?_)
local macro_rules | `(tactic| walk_at "my rn1") => `(tactic| with_reducible refine Rd.dsetd ?_)
local macro_rules | `(tactic| walk_at "my rn1") => `(tactic| with_reducible refine Rd.ckw ?_)
local macro_rules | `(tactic| walk_at "my rn1") => `(tactic| with_reducible refine Rd.izip ?_)
local macro_rules | `(tactic| walk_at "my rn1") => `(tactic| with_reducible refine Rd.make ?_)
local macro_rules | `(tactic| walk_at "my rn1") => `(tactic| with_reducible refine Rd.meth ?_)
local macro_rules | `(tactic| walk_at "my rn1") => `(tactic| with_reducible refine Rd.sfld ?_)
local macro_rules | `(tactic| walk_at "my rn1") => `(tactic| with_reducible refine Rd.fld ?_)
local macro_rules | `(tactic| walk_at "my rn1") => `(tactic| with_reducible refine Rd.lzip ?_)
local macro_rules | `(tactic| walk_at "my rn1") => `(tactic| with_reducible refine Rd.revN ?_)
local macro_rules | `(tactic| walk_at "my rn1") => `(tactic| with_reducible refine Rd.catQI ?_)
local macro_rules | `(tactic| walk_at "my rn1") => `(tactic| with_reducible refine Rd.dstar ?_)
local macro_rules | `(tactic| walk_at "my rn1") => `(tactic| with_reducible refine Rd.dget1 ?_)
local macro_rules | `(tactic| walk_at "my rn1") => `(tactic| with_reducible refine Rd.chain3 ?_)
local macro_rules | `(tactic| walk_at "my rn1") => `(tactic| with_reducible refine Rd.callN ?_)
local macro_rules | `(tactic| walk_at "my rn1") => `(tactic| with_reducible refine Rd.mkK ?_)
local macro_rules | `(tactic| walk_at "my rn1") => `(tactic| with_reducible refine Rd.mkKS ?_)
local macro_rules | `(tactic| walk_at "my rn1") => `(tactic| with_reducible refine Rd.mkS ?_)
local macro_rules | `(tactic| walk_at "my rn1") => `(tactic| with_reducible refine Rd.callS ?_)
local macro_rules | `(tactic| walk_at "my rn1") => `(tactic| with_reducible refine Rd.next ?_)
local macro_rules | `(tactic| walk_at "my rn1") => `(tactic| with_reducible refine Rd.ret ?_)
local macro_rules | `(tactic| walk_at "my rn1") => `(tactic| with_reducible refine Rd.drop ?_)
local macro_rules | `(tactic| walk_at "my rn1") => `(tactic| with_reducible refine Rd.not_ ?_)
local macro_rules | `(tactic| walk_at "my rn1") => `(tactic| with_reducible refine Rd.or_ ?_)
local macro_rules | `(tactic| walk_at "my rn1") => `(tactic| with_reducible refine Rd.and_ ?_)
local macro_rules | `(tactic| walk_at "my rn1") => `(tactic| with_reducible refine Rd.ifs ?_)
local macro_rules | `(tactic| walk_at "my rn1") => `(tactic| with_reducible refine Rd.bl2 ?_)
local macro_rules | `(tactic| walk_at "my rn1") => `(tactic| with_reducible refine Rd.bl ?_)
local macro_rules | `(tactic| walk_at "my rn1") => `(tactic| with_reducible refine Rd.I0 ?_)
local macro_rules | `(tactic| walk_at "my rn1") => `(tactic| with_reducible refine Rd.op ?_)
local macro_rules | `(tactic| walk_at "my rn1") => `(tactic| with_reducible refine Rd.tb_ ?_)
local macro_rules | `(tactic| walk_at "my rn1") => `(tactic| with_reducible refine Rd.test ?_)
local macro_rules | `(tactic| walk_at "my rn1") => `(tactic| ((with_reducible refine Rd.gdN ?_); walk_at "my gdN"))
local macro_rules | `(tactic| walk_at "my rn1") => `(tactic| with_reducible refine Rd.asg ?_)
local macro_rules | `(tactic| walk_at "my rn1") => `(tactic| with_reducible refine Rd.seq ?_)
local macro_rules | `(tactic| walk_at "my rn1") => `(tactic| with_reducible refine Rd.nil ?_)
local macro_rules | `(tactic| walk_at "my rn1") => `(tactic| with_reducible refine Rd.cons ?_)
local macro_rules | `(tactic| walk_at "my rn1") => `(tactic| with_reducible refine Rd.c_ ?_)
local macro_rules | `(tactic| walk_at "my rn1") => `(tactic| ((with_reducible apply Rd.vv); exact rfl))
local macro_rules | `(tactic| walk_at "my rn") => `(tactic| (repeat walk_at "my rn1"))
def topS (i : Nat) : Stmt := PySem.Challenge.pw_deadbeat_k75_limits_of_programs.main.body.getD i (.Pass ⟨0, 0, 0, 0⟩)
abbrev s_is_reserved : Stmt := topS 8
theorem sc_is_reserved : FnScope ["name"] ["name"] (defScope s_is_reserved) := ⟨rfl, rfl, rfl, by decide +kernel, rfl, by decide +kernel, by decide +kernel⟩
abbrev s_depth : Stmt := topS 10
theorem sc_depth : FnScope ["e", "deepest", "waiting", "part", "level", "operand"] ["e"] (defScope s_depth) := ⟨rfl, rfl, rfl, by decide +kernel, rfl, by decide +kernel, by decide +kernel⟩
abbrev s_parts : Stmt := topS 11
theorem sc_parts : FnScope ["e", "found", "waiting", "part"] ["e"] (defScope s_parts) := ⟨rfl, rfl, rfl, by decide +kernel, rfl, by decide +kernel, by decide +kernel⟩
abbrev s__operands : Stmt := topS 12
theorem sc__operands : FnScope ["e", "kind"] ["e"] (defScope s__operands) := ⟨rfl, rfl, rfl, by decide +kernel, rfl, by decide +kernel, by decide +kernel⟩
abbrev s_find : Stmt := topS 34
theorem sc_find : FnScope ["rows", "name", "at", "row"] ["rows", "name"] (defScope s_find) := ⟨rfl, rfl, rfl, by decide +kernel, rfl, by decide +kernel, by decide +kernel⟩
abbrev s_check : Stmt := topS 35
theorem sc_check : FnScope ["program", "_", "name", "ports", "objects", "tasks", "interrupts", "kind", "port", "names", "at", "thing", "task", "interrupt"] ["program"] (defScope s_check) := ⟨rfl, rfl, rfl, by decide +kernel, rfl, by decide +kernel, by decide +kernel⟩
abbrev s__demand : Stmt := topS 36
theorem sc__demand : FnScope ["holds", "rule"] ["holds", "rule"] (defScope s__demand) := ⟨rfl, rfl, rfl, by decide +kernel, rfl, by decide +kernel, by decide +kernel⟩
abbrev s__check_name : Stmt := topS 37
theorem sc__check_name : FnScope ["name", "taken"] ["name", "taken"] (defScope s__check_name) := ⟨rfl, rfl, rfl, by decide +kernel, rfl, by decide +kernel, by decide +kernel⟩
abbrev s__is_name : Stmt := topS 38
theorem sc__is_name : FnScope ["text", "character"] ["text"] (defScope s__is_name) := ⟨rfl, rfl, rfl, by decide +kernel, rfl, by decide +kernel, by decide +kernel⟩
abbrev s__check_object : Stmt := topS 39
theorem sc__check_object : FnScope ["program", "own", "taken", "_", "name", "fields", "operations", "scope", "names", "operation"] ["program", "own", "taken"] (defScope s__check_object) := ⟨rfl, rfl, rfl, by decide +kernel, rfl, by decide +kernel, by decide +kernel⟩
abbrev s__check_operation : Stmt := topS 40
theorem sc__check_operation : FnScope ["program", "own", "operation", "fields", "taken", "_", "name", "params", "cells", "body", "result", "scope", "param"] ["program", "own", "operation", "fields", "taken"] (defScope s__check_operation) := ⟨rfl, rfl, rfl, by decide +kernel, rfl, by decide +kernel, by decide +kernel⟩
abbrev s__check_task : Stmt := topS 41
theorem sc__check_task : FnScope ["program", "task", "taken", "_", "name", "every", "within", "cells", "body"] ["program", "task", "taken"] (defScope s__check_task) := ⟨rfl, rfl, rfl, by decide +kernel, rfl, by decide +kernel, by decide +kernel⟩
abbrev s__check_interrupt : Stmt := topS 42
theorem sc__check_interrupt : FnScope ["program", "interrupt", "taken", "_", "name", "every", "within", "thing", "operation", "given"] ["program", "interrupt", "taken"] (defScope s__check_interrupt) := ⟨rfl, rfl, rfl, by decide +kernel, rfl, by decide +kernel, by decide +kernel⟩
abbrev s__are_times : Stmt := topS 43
theorem sc__are_times : FnScope ["every", "within"] ["every", "within"] (defScope s__are_times) := ⟨rfl, rfl, rfl, by decide +kernel, rfl, by decide +kernel, by decide +kernel⟩
abbrev s__with_name : Stmt := topS 44
theorem sc__with_name : FnScope ["scope", "name", "kind"] ["scope", "name", "kind"] (defScope s__with_name) := ⟨rfl, rfl, rfl, by decide +kernel, rfl, by decide +kernel, by decide +kernel⟩
abbrev s__with_cells : Stmt := topS 45
theorem sc__with_cells : FnScope ["scope", "cells", "name", "many"] ["scope", "cells"] (defScope s__with_cells) := ⟨rfl, rfl, rfl, by decide +kernel, rfl, by decide +kernel, by decide +kernel⟩
abbrev s__check_body : Stmt := topS 46
theorem sc__check_body : FnScope ["program", "own", "body", "scope"] ["program", "own", "body", "scope"] (defScope s__check_body) := ⟨rfl, rfl, rfl, by decide +kernel, rfl, by decide +kernel, by decide +kernel⟩
abbrev s__fits : Stmt := topS 47
theorem sc__fits : FnScope ["body", "many", "waiting", "rows", "lists", "loops", "statement"] ["body"] (defScope s__fits) := ⟨rfl, rfl, rfl, by decide +kernel, rfl, by decide +kernel, by decide +kernel⟩
abbrev s__check_statements : Stmt := topS 48
theorem sc__check_statements : FnScope ["program", "own", "rows", "scope", "statement", "e", "deepest"] ["program", "own", "rows", "scope"] (defScope s__check_statements) := ⟨rfl, rfl, rfl, by decide +kernel, rfl, by decide +kernel, by decide +kernel⟩
abbrev s__expressions : Stmt := topS 49
theorem sc__expressions : FnScope ["statement", "place", "value", "given", "argument"] ["statement"] (defScope s__expressions) := ⟨rfl, rfl, rfl, by decide +kernel, rfl, by decide +kernel, by decide +kernel⟩
abbrev s__index : Stmt := topS 50
theorem sc__index : FnScope ["place"] ["place"] (defScope s__index) := ⟨rfl, rfl, rfl, by decide +kernel, rfl, by decide +kernel, by decide +kernel⟩
abbrev s__check_expression : Stmt := topS 51
theorem sc__check_expression : FnScope ["e", "deepest", "scope", "found", "part"] ["e", "deepest", "scope"] (defScope s__check_expression) := ⟨rfl, rfl, rfl, by decide +kernel, rfl, by decide +kernel, by decide +kernel⟩
abbrev s__check_statement : Stmt := topS 52
theorem sc__check_statement : FnScope ["program", "own", "statement", "scope", "place", "then", "other", "name", "count", "body", "thing", "operation", "given", "port"] ["program", "own", "statement", "scope"] (defScope s__check_statement) := ⟨rfl, rfl, rfl, by decide +kernel, rfl, by decide +kernel, by decide +kernel⟩
abbrev s__check_place : Stmt := topS 53
theorem sc__check_place : FnScope ["place", "scope", "wanted"] ["place", "scope"] (defScope s__check_place) := ⟨rfl, rfl, rfl, by decide +kernel, rfl, by decide +kernel, by decide +kernel⟩
abbrev s__check_port : Stmt := topS 54
theorem sc__check_port : FnScope ["program", "own", "port"] ["program", "own", "port"] (defScope s__check_port) := ⟨rfl, rfl, rfl, by decide +kernel, rfl, by decide +kernel, by decide +kernel⟩
abbrev s__check_call : Stmt := topS 55
theorem sc__check_call : FnScope ["program", "own", "thing", "operation", "given", "objects", "at", "operations", "number"] ["program", "own", "thing", "operation", "given"] (defScope s__check_call) := ⟨rfl, rfl, rfl, by decide +kernel, rfl, by decide +kernel, by decide +kernel⟩
abbrev s__law_rule : Stmt := topS 57
theorem sc__law_rule : FnScope ["program", "e"] ["program"] (defScope s__law_rule) := ⟨rfl, rfl, rfl, by decide +kernel, rfl, by decide +kernel, by decide +kernel⟩
abbrev s__law_rows : Stmt := topS 58
theorem sc__law_rows : FnScope ["word", "many", "k"] ["word", "many"] (defScope s__law_rows) := ⟨rfl, rfl, rfl, by decide +kernel, rfl, by decide +kernel, by decide +kernel⟩
abbrev s__law_task : Stmt := topS 59
theorem sc__law_task : FnScope ["body", "cells"] ["body", "cells"] (defScope s__law_task) := ⟨rfl, rfl, rfl, by decide +kernel, rfl, by decide +kernel, by decide +kernel⟩
abbrev s__law_whole : Stmt := topS 60
theorem sc__law_whole : FnScope ["ports", "objects", "tasks", "interrupts"] ["ports", "objects", "tasks", "interrupts"] (defScope s__law_whole) := ⟨rfl, rfl, rfl, by decide +kernel, rfl, by decide +kernel, by decide +kernel⟩
abbrev s__law_operation : Stmt := topS 61
theorem sc__law_operation : FnScope ["name", "params", "cells", "body"] ["name", "params", "cells", "body"] (defScope s__law_operation) := ⟨rfl, rfl, rfl, by decide +kernel, rfl, by decide +kernel, by decide +kernel⟩
abbrev s__law_counts : Stmt := topS 62
theorem sc__law_counts : FnScope ["kind", "n", "plain", "name", "rows"] ["kind", "n"] (defScope s__law_counts) := ⟨rfl, rfl, rfl, by decide +kernel, rfl, by decide +kernel, by decide +kernel⟩
abbrev s__law_deep : Stmt := topS 63
theorem sc__law_deep : FnScope ["n", "inner", "body", "k"] ["n", "inner"] (defScope s__law_deep) := ⟨rfl, rfl, rfl, by decide +kernel, rfl, by decide +kernel, by decide +kernel⟩
abbrev s__law_loops : Stmt := topS 64
theorem sc__law_loops : FnScope ["n", "body", "k"] ["n"] (defScope s__law_loops) := ⟨rfl, rfl, rfl, by decide +kernel, rfl, by decide +kernel, by decide +kernel⟩
abbrev s__law_unary : Stmt := topS 65
theorem sc__law_unary : FnScope ["n", "e", "k"] ["n"] (defScope s__law_unary) := ⟨rfl, rfl, rfl, by decide +kernel, rfl, by decide +kernel, by decide +kernel⟩
abbrev s__law_wide : Stmt := topS 66
theorem sc__law_wide : FnScope ["n", "rows", "k", "first", "left", "right", "more"] ["n"] (defScope s__law_wide) := ⟨rfl, rfl, rfl, by decide +kernel, rfl, by decide +kernel, by decide +kernel⟩
abbrev s__law_bodies : Stmt := topS 67
theorem sc__law_bodies : FnScope ["kind", "n", "cells", "rest", "k", "body", "rows"] ["kind", "n"] (defScope s__law_bodies) := ⟨rfl, rfl, rfl, by decide +kernel, rfl, by decide +kernel, by decide +kernel⟩
abbrev s_law : Stmt := topS 68
theorem sc_law : FnScope ["script", "cell", "k", "kind", "limits", "limit", "good", "bad", "rule", "before"] ["script"] (defScope s_law) := ⟨rfl, rfl, rfl, by decide +kernel, rfl, by decide +kernel, by decide +kernel⟩

def parts_RuleError : List Expr := [(PySem.Expr.Constant (PySem.Const.str "rule ") 0 ⟨7, 27, 7, 32⟩), (PySem.Expr.FormattedValue (PySem.Expr.Name "rule" ⟨7, 33, 7, 37⟩) (-1) none ⟨7, 32, 7, 38⟩)]
theorem fo_RuleError : PySem.Errs.FldOk "rule" [] parts_RuleError ⟨7, 25, 7, 39⟩ := ⟨rfl, rfl, rfl, rfl, rfl, (by decide), fun _ _ => rfl, fun _ _ => rfl, fun _ => rfl, fun _ _ _ _ _ _ _ _ _ _ _ _ _ => .of_eq rfl⟩
structure Top (P : Program) (K : PySem.W.Frag) (mg : Str → Option Value) where
  C_RuleError : Addr
  gc_RuleError : mg "RuleError" = some (.ref C_RuleError)
  f_RuleError : Addr
  x_RuleError : PySem.Errs.ErrTxt P K mg "RuleError" "rule" [] parts_RuleError ⟨7, 25, 7, 39⟩ C_RuleError f_RuleError
  xd_RuleError : ExcD K C_RuleError
  xf_RuleError : XfC K C_RuleError
  a_is_reserved : Addr
  d_is_reserved : FuncData
  F_is_reserved : Fun K "is_reserved" "is_reserved" s_is_reserved a_is_reserved d_is_reserved
  g_is_reserved : mg "is_reserved" = some (.ref a_is_reserved)
  b_is_reserved : Binds K d_is_reserved ["name"] []
  a_depth : Addr
  d_depth : FuncData
  F_depth : Fun K "depth" "depth" s_depth a_depth d_depth
  g_depth : mg "depth" = some (.ref a_depth)
  b_depth : Binds K d_depth ["e"] []
  a_parts : Addr
  d_parts : FuncData
  F_parts : Fun K "parts" "parts" s_parts a_parts d_parts
  g_parts : mg "parts" = some (.ref a_parts)
  b_parts : Binds K d_parts ["e"] []
  a__operands : Addr
  d__operands : FuncData
  F__operands : Fun K "_operands" "_operands" s__operands a__operands d__operands
  g__operands : mg "_operands" = some (.ref a__operands)
  b__operands : Binds K d__operands ["e"] []
  a_find : Addr
  d_find : FuncData
  F_find : Fun K "find" "find" s_find a_find d_find
  g_find : mg "find" = some (.ref a_find)
  b_find : Binds K d_find ["rows", "name"] []
  a_check : Addr
  d_check : FuncData
  F_check : Fun K "check" "check" s_check a_check d_check
  g_check : mg "check" = some (.ref a_check)
  b_check : Binds K d_check ["program"] []
  a__demand : Addr
  d__demand : FuncData
  F__demand : Fun K "_demand" "_demand" s__demand a__demand d__demand
  g__demand : mg "_demand" = some (.ref a__demand)
  b__demand : Binds K d__demand ["holds", "rule"] []
  a__check_name : Addr
  d__check_name : FuncData
  F__check_name : Fun K "_check_name" "_check_name" s__check_name a__check_name d__check_name
  g__check_name : mg "_check_name" = some (.ref a__check_name)
  b__check_name : Binds K d__check_name ["name", "taken"] []
  a__is_name : Addr
  d__is_name : FuncData
  F__is_name : Fun K "_is_name" "_is_name" s__is_name a__is_name d__is_name
  g__is_name : mg "_is_name" = some (.ref a__is_name)
  b__is_name : Binds K d__is_name ["text"] []
  a__check_object : Addr
  d__check_object : FuncData
  F__check_object : Fun K "_check_object" "_check_object" s__check_object a__check_object d__check_object
  g__check_object : mg "_check_object" = some (.ref a__check_object)
  b__check_object : Binds K d__check_object ["program", "own", "taken"] []
  a__check_operation : Addr
  d__check_operation : FuncData
  F__check_operation : Fun K "_check_operation" "_check_operation" s__check_operation a__check_operation d__check_operation
  g__check_operation : mg "_check_operation" = some (.ref a__check_operation)
  b__check_operation : Binds K d__check_operation ["program", "own", "operation", "fields", "taken"] []
  a__check_task : Addr
  d__check_task : FuncData
  F__check_task : Fun K "_check_task" "_check_task" s__check_task a__check_task d__check_task
  g__check_task : mg "_check_task" = some (.ref a__check_task)
  b__check_task : Binds K d__check_task ["program", "task", "taken"] []
  a__check_interrupt : Addr
  d__check_interrupt : FuncData
  F__check_interrupt : Fun K "_check_interrupt" "_check_interrupt" s__check_interrupt a__check_interrupt d__check_interrupt
  g__check_interrupt : mg "_check_interrupt" = some (.ref a__check_interrupt)
  b__check_interrupt : Binds K d__check_interrupt ["program", "interrupt", "taken"] []
  a__are_times : Addr
  d__are_times : FuncData
  F__are_times : Fun K "_are_times" "_are_times" s__are_times a__are_times d__are_times
  g__are_times : mg "_are_times" = some (.ref a__are_times)
  b__are_times : Binds K d__are_times ["every", "within"] []
  a__with_name : Addr
  d__with_name : FuncData
  F__with_name : Fun K "_with_name" "_with_name" s__with_name a__with_name d__with_name
  g__with_name : mg "_with_name" = some (.ref a__with_name)
  b__with_name : Binds K d__with_name ["scope", "name", "kind"] []
  a__with_cells : Addr
  d__with_cells : FuncData
  F__with_cells : Fun K "_with_cells" "_with_cells" s__with_cells a__with_cells d__with_cells
  g__with_cells : mg "_with_cells" = some (.ref a__with_cells)
  b__with_cells : Binds K d__with_cells ["scope", "cells"] []
  a__check_body : Addr
  d__check_body : FuncData
  F__check_body : Fun K "_check_body" "_check_body" s__check_body a__check_body d__check_body
  g__check_body : mg "_check_body" = some (.ref a__check_body)
  b__check_body : Binds K d__check_body ["program", "own", "body", "scope"] []
  a__fits : Addr
  d__fits : FuncData
  F__fits : Fun K "_fits" "_fits" s__fits a__fits d__fits
  g__fits : mg "_fits" = some (.ref a__fits)
  b__fits : Binds K d__fits ["body"] []
  a__check_statements : Addr
  d__check_statements : FuncData
  F__check_statements : Fun K "_check_statements" "_check_statements" s__check_statements a__check_statements d__check_statements
  g__check_statements : mg "_check_statements" = some (.ref a__check_statements)
  b__check_statements : Binds K d__check_statements ["program", "own", "rows", "scope"] []
  a__expressions : Addr
  d__expressions : FuncData
  F__expressions : Fun K "_expressions" "_expressions" s__expressions a__expressions d__expressions
  g__expressions : mg "_expressions" = some (.ref a__expressions)
  b__expressions : Binds K d__expressions ["statement"] []
  a__index : Addr
  d__index : FuncData
  F__index : Fun K "_index" "_index" s__index a__index d__index
  g__index : mg "_index" = some (.ref a__index)
  b__index : Binds K d__index ["place"] []
  a__check_expression : Addr
  d__check_expression : FuncData
  F__check_expression : Fun K "_check_expression" "_check_expression" s__check_expression a__check_expression d__check_expression
  g__check_expression : mg "_check_expression" = some (.ref a__check_expression)
  b__check_expression : Binds K d__check_expression ["e", "deepest", "scope"] []
  a__check_statement : Addr
  d__check_statement : FuncData
  F__check_statement : Fun K "_check_statement" "_check_statement" s__check_statement a__check_statement d__check_statement
  g__check_statement : mg "_check_statement" = some (.ref a__check_statement)
  b__check_statement : Binds K d__check_statement ["program", "own", "statement", "scope"] []
  a__check_place : Addr
  d__check_place : FuncData
  F__check_place : Fun K "_check_place" "_check_place" s__check_place a__check_place d__check_place
  g__check_place : mg "_check_place" = some (.ref a__check_place)
  b__check_place : Binds K d__check_place ["place", "scope"] []
  a__check_port : Addr
  d__check_port : FuncData
  F__check_port : Fun K "_check_port" "_check_port" s__check_port a__check_port d__check_port
  g__check_port : mg "_check_port" = some (.ref a__check_port)
  b__check_port : Binds K d__check_port ["program", "own", "port"] []
  a__check_call : Addr
  d__check_call : FuncData
  F__check_call : Fun K "_check_call" "_check_call" s__check_call a__check_call d__check_call
  g__check_call : mg "_check_call" = some (.ref a__check_call)
  b__check_call : Binds K d__check_call ["program", "own", "thing", "operation", "given"] []
  a__law_rule : Addr
  d__law_rule : FuncData
  F__law_rule : Fun K "_law_rule" "_law_rule" s__law_rule a__law_rule d__law_rule
  g__law_rule : mg "_law_rule" = some (.ref a__law_rule)
  b__law_rule : Binds K d__law_rule ["program"] []
  a__law_rows : Addr
  d__law_rows : FuncData
  F__law_rows : Fun K "_law_rows" "_law_rows" s__law_rows a__law_rows d__law_rows
  g__law_rows : mg "_law_rows" = some (.ref a__law_rows)
  b__law_rows : Binds K d__law_rows ["word", "many"] []
  a__law_task : Addr
  d__law_task : FuncData
  F__law_task : Fun K "_law_task" "_law_task" s__law_task a__law_task d__law_task
  g__law_task : mg "_law_task" = some (.ref a__law_task)
  b__law_task : Binds K d__law_task ["body", "cells"] []
  a__law_whole : Addr
  d__law_whole : FuncData
  F__law_whole : Fun K "_law_whole" "_law_whole" s__law_whole a__law_whole d__law_whole
  g__law_whole : mg "_law_whole" = some (.ref a__law_whole)
  b__law_whole : Binds K d__law_whole ["ports", "objects", "tasks", "interrupts"] []
  a__law_operation : Addr
  d__law_operation : FuncData
  F__law_operation : Fun K "_law_operation" "_law_operation" s__law_operation a__law_operation d__law_operation
  g__law_operation : mg "_law_operation" = some (.ref a__law_operation)
  b__law_operation : Binds K d__law_operation ["name", "params", "cells", "body"] []
  a__law_counts : Addr
  d__law_counts : FuncData
  F__law_counts : Fun K "_law_counts" "_law_counts" s__law_counts a__law_counts d__law_counts
  g__law_counts : mg "_law_counts" = some (.ref a__law_counts)
  b__law_counts : Binds K d__law_counts ["kind", "n"] []
  a__law_deep : Addr
  d__law_deep : FuncData
  F__law_deep : Fun K "_law_deep" "_law_deep" s__law_deep a__law_deep d__law_deep
  g__law_deep : mg "_law_deep" = some (.ref a__law_deep)
  b__law_deep : Binds K d__law_deep ["n", "inner"] []
  a__law_loops : Addr
  d__law_loops : FuncData
  F__law_loops : Fun K "_law_loops" "_law_loops" s__law_loops a__law_loops d__law_loops
  g__law_loops : mg "_law_loops" = some (.ref a__law_loops)
  b__law_loops : Binds K d__law_loops ["n"] []
  a__law_unary : Addr
  d__law_unary : FuncData
  F__law_unary : Fun K "_law_unary" "_law_unary" s__law_unary a__law_unary d__law_unary
  g__law_unary : mg "_law_unary" = some (.ref a__law_unary)
  b__law_unary : Binds K d__law_unary ["n"] []
  a__law_wide : Addr
  d__law_wide : FuncData
  F__law_wide : Fun K "_law_wide" "_law_wide" s__law_wide a__law_wide d__law_wide
  g__law_wide : mg "_law_wide" = some (.ref a__law_wide)
  b__law_wide : Binds K d__law_wide ["n"] []
  a__law_bodies : Addr
  d__law_bodies : FuncData
  F__law_bodies : Fun K "_law_bodies" "_law_bodies" s__law_bodies a__law_bodies d__law_bodies
  g__law_bodies : mg "_law_bodies" = some (.ref a__law_bodies)
  b__law_bodies : Binds K d__law_bodies ["kind", "n"] []
  a_law : Addr
  d_law : FuncData
  F_law : Fun K "law" "law" s_law a_law d_law
  g_law : mg "law" = some (.ref a_law)
  b_law : Binds K d_law ["script"] []
  m_max : mg "max" = none
  m_list : mg "list" = none
  m_enumerate : mg "enumerate" = none
  m_len : mg "len" = none
  m_all : mg "all" = none
  m_range : mg "range" = none
  m_str : mg "str" = none
  m_repr : mg "repr" = none
  m_int : mg "int" = none
  m_abs : mg "abs" = none
  p_RESERVED : Addr
  c_RESERVED : mg "RESERVED" = some (.ref p_RESERVED)
  l_RESERVED : ∃ o, K.lookup p_RESERVED = some o ∧ o.cls = .type "tuple" ∧ o.dict = none
  q_RESERVED : ∀ H, SqT K H p_RESERVED [.str "system", .str "in", .str "out", .str "object", .str "cell", .str "operation", .str "give", .str "end", .str "task", .str "every", .str "within", .str "if", .str "else", .str "loop", .str "to", .str "while", .str "read", .str "write", .str "interrupt", .str "calls", .str "mod", .str "and", .str "or"]
  t_MOST_INTERRUPTS : Tok
  c_MOST_INTERRUPTS : mg "MOST_INTERRUPTS" = some (.int (2) t_MOST_INTERRUPTS)
  t_MOST_TASKS : Tok
  c_MOST_TASKS : mg "MOST_TASKS" = some (.int (8) t_MOST_TASKS)
  t_MOST_OBJECTS : Tok
  c_MOST_OBJECTS : mg "MOST_OBJECTS" = some (.int (4) t_MOST_OBJECTS)
  t_MOST_PORTS : Tok
  c_MOST_PORTS : mg "MOST_PORTS" = some (.int (8) t_MOST_PORTS)
  t_DIGITS : Tok
  c_DIGITS : mg "DIGITS" = some (.str "0123456789" t_DIGITS)
  t_LETTERS : Tok
  c_LETTERS : mg "LETTERS" = some (.str "abcdefghijklmnopqrstuvwxyzABCDEFGHIJKLMNOPQRSTUVWXYZ" t_LETTERS)
  t_LONGEST_NAME : Tok
  c_LONGEST_NAME : mg "LONGEST_NAME" = some (.int (16) t_LONGEST_NAME)
  t_MOST_OPERATIONS : Tok
  c_MOST_OPERATIONS : mg "MOST_OPERATIONS" = some (.int (4) t_MOST_OPERATIONS)
  t_MOST_DECLARED : Tok
  c_MOST_DECLARED : mg "MOST_DECLARED" = some (.int (16) t_MOST_DECLARED)
  t_DEEPEST : Tok
  c_DEEPEST : mg "DEEPEST" = some (.int (6) t_DEEPEST)
  t_SINGLE : Tok
  c_SINGLE : mg "SINGLE" = some (.int (0) t_SINGLE)
  t_MOST_PARAMS : Tok
  c_MOST_PARAMS : mg "MOST_PARAMS" = some (.int (4) t_MOST_PARAMS)
  t_NO_OBJECT : Tok
  c_NO_OBJECT : mg "NO_OBJECT" = some (.int (-1) t_NO_OBJECT)
  t_LONGEST_TIME : Tok
  c_LONGEST_TIME : mg "LONGEST_TIME" = some (.int (4194304) t_LONGEST_TIME)
  t_ARRAY : Tok
  c_ARRAY : mg "ARRAY" = some (.int (1) t_ARRAY)
  t_MOST_CELLS : Tok
  c_MOST_CELLS : mg "MOST_CELLS" = some (.int (64) t_MOST_CELLS)
  t_MOST_STATEMENTS : Tok
  c_MOST_STATEMENTS : mg "MOST_STATEMENTS" = some (.int (200) t_MOST_STATEMENTS)
  t_DEEPEST_LOOP : Tok
  c_DEEPEST_LOOP : mg "DEEPEST_LOOP" = some (.int (4) t_DEEPEST_LOOP)
  t_DEEPEST_LIST : Tok
  c_DEEPEST_LIST : mg "DEEPEST_LIST" = some (.int (8) t_DEEPEST_LIST)
  t_DEEPEST_ARGUMENT : Tok
  c_DEEPEST_ARGUMENT : mg "DEEPEST_ARGUMENT" = some (.int (4) t_DEEPEST_ARGUMENT)
  t_VARIABLE : Tok
  c_VARIABLE : mg "VARIABLE" = some (.int (2) t_VARIABLE)
  t_MOST_PARTS : Tok
  c_MOST_PARTS : mg "MOST_PARTS" = some (.int (40) t_MOST_PARTS)
  t_MOST_ROUNDS : Tok
  c_MOST_ROUNDS : mg "MOST_ROUNDS" = some (.int (64) t_MOST_ROUNDS)
/-! ### the checks of rules -/
def RESV : List Str := ["system", "in", "out", "object", "cell", "operation", "give", "end", "task", "every", "within", "if", "else", "loop", "to", "while", "read", "write", "interrupt", "calls", "mod", "and", "or"]
def LETS : Str := "abcdefghijklmnopqrstuvwxyzABCDEFGHIJKLMNOPQRSTUVWXYZ"
def DIGS : Str := "0123456789"
/-- a scope: names to kinds -/
abbrev DSI (m : List (Str × Int)) : HO := Rd.DS (m.map fun q => (q.1, V.int q.2))
def lkI (m : List (Str × Int)) (k : Str) : Option Int := (m.find? fun p => decide (p.1 = k)).map (·.2)
structure NameOk (z : Str) : Prop where
  l1 : 1 ≤ z.length
  l2 : z.length ≤ 16
  h : ∃ c, z.cps.toList[0]? = some c ∧ c ∈ LETS.cps.toList
  r : z ∉ RESV
  c : ∀ c ∈ z.cps.toList, c ∈ LETS.cps.toList ∨ c ∈ DIGS.cps.toList ∨ c = 95
theorem new_off' {H : Hp} {a b : Addr} {x : HO} (h : H a = some x) (n : H b = none) : a ≠ b := fun z => by rw [z, n] at h; cases h
theorem lks_i (m : List (Str × Int)) (k : Str) : Rd.lks (m.map fun q => (q.1, V.int q.2)) k = (lkI m k).map V.int := by
  unfold Rd.lks lkI
  induction m with
  | nil => rfl
  | cons a r ih =>
    rw [List.map_cons, List.find?_cons, List.find?_cons]
    cases decide (a.1 = k) with
    | true => rfl
    | false => exact ih
instance (z : Str) : Decidable (NameOk z) :=
  decidable_of_iff (1 ≤ z.length ∧ z.length ≤ 16 ∧ (∃ c ∈ z.cps.toList[0]?, c ∈ LETS.cps.toList) ∧ z ∉ RESV ∧ ∀ c ∈ z.cps.toList, c ∈ LETS.cps.toList ∨ c ∈ DIGS.cps.toList ∨ c = 95)
    ⟨fun ⟨a, b, ⟨c, c1, c2⟩, d, e⟩ => ⟨a, b, ⟨c, c1, c2⟩, d, e⟩, fun ⟨a, b, ⟨c, c1, c2⟩, d, e⟩ => ⟨a, b, ⟨c, c1, c2⟩, d, e⟩⟩
def chB (c : Nat) : Bool := decide (c ∈ LETS.cps.toList ∨ c ∈ DIGS.cps.toList ∨ c = 95)
def nameB (z : Str) : Bool := decide (NameOk z)
theorem nameB_f {z : Str} (h : ¬ NameOk z) : nameB z = false := decide_eq_false h
section
variable {P : Program} {w : World} {K : PySem.W.Frag} {mg : Str → Option Value} {base : Heap}
/-- a RuleError with this rule, in a new dict; what was there stands -/
def RuleOut (C : Addr) (z : Str) (H : Hp) (E : XK) : Prop := ∀ H' d, Same H H' → H d = none → H' d = some (.xd [(("rule" : Str), .str z)]) → E (.ref C) (some d) H'
def sp__demand (C : Addr) : Sp := fun vs H Q E => ∃ (b : Bool) (z : Str), vs = [.bl b, .str z] ∧ z.length ≤ 10 ∧ (b = true → Q .non H) ∧ (b = false → RuleOut C z H E)
theorem ok__demand (T : Top P K mg) : FnOk P w K mg base (L2.CX P w) 3 T.a__demand T.d__demand ["holds", "rule"]  (sp__demand T.C_RuleError) := by
  refine T.F__demand.okX sc__demand (fun vs H Q E h => ?_) (fun cdv A outer s H vs Q E hr h => ?_)
  · obtain ⟨_, _, rfl, _⟩ := h
    rfl
  · obtain ⟨b, z, rfl, lz, q, qe⟩ := h
    refine ⟨_, (pss_one (ps_if (pt_not (pt_val (pv 0)))
  (pss_one (ps_raiseErr (lv := 0) rfl T.x_RuleError fo_RuleError hr (takes_of rfl rfl rfl rfl) (pa_cons (pv 1) pa_nil)))
  pss_nil)), ?_⟩
    rw [show ∀ a0 a1 : V, L2.start ["holds", "rule"] [a0, a1] = [some a0, some a1] from fun _ _ => rfl]
    walk_at "my rn"
    cases b with
    | true => exact Rd.ifF (q rfl)
    | false =>
      refine Rd.ifT ?_
      refine ⟨_, rfl, _, rfl, msg_str2 rfl (by decide) (by decide) (by omega), fun d hd => ?_⟩
      exact qe rfl _ d (same_new hd) hd upd_same
theorem ninStrs {H : Hp} {Q : VK} {p : Addr} {ns : List Str} {n : Str} (h : H p = some (.lst (ns.map V.str))) (q : Q (.bl (!decide (n ∈ ns))) H) : rIn K true (.str n) (.ref p) H Q :=
  ⟨p, _, rfl, .inl (SqL.of h), rfl, Rd.flat_strs _, by rw [Rd.inV_strz]; exact q⟩
def sp_is_reserved (K : PySem.W.Frag) : Sp := fun vs H Q _ => ∃ z : Str, vs = [.str z] ∧ Q (.bl (decide (z ∈ RESV))) H
theorem ok_is_reserved (T : Top P K mg) : FnOk P w K mg base CX0 1 T.a_is_reserved T.d_is_reserved ["name"]  (sp_is_reserved K) := by
  refine T.F_is_reserved.ok sc_is_reserved (fun vs H Q E h => ?_) (fun cdv A outer s H vs Q E hr h => ?_)
  · obtain ⟨_, rfl, _⟩ := h
    rfl
  · obtain ⟨z, rfl, q⟩ := h
    refine ⟨_, (pss_one (ps_ret (pe_cmpR op_in_seq (pv 0) (pe_gr (by rfl) T.c_RESERVED) (by with_unfolding_all rfl)))), ?_⟩
    rw [show ∀ a0 : V, L2.start ["name"] [a0] = [some a0] from fun _ => rfl]
    walk_at "my rn"
    refine Rd.inStrT RESV (T.q_RESERVED _) ?_
    exact q
def sp__is_name (K : PySem.W.Frag) : Sp := fun vs H Q _ => ∃ z : Str, vs = [.str z] ∧ z.length ≤ 10000 ∧ ∀ H', Same H H' → Q (.bl (nameB z)) H'
theorem ok__is_name (T : Top P K mg) : FnOk P w K mg base CX0 2 T.a__is_name T.d__is_name ["text"]  (sp__is_name K) := by
  refine T.F__is_name.ok sc__is_name (fun vs H Q E h => ?_) (fun cdv A outer s H vs Q E hr h => ?_)
  · obtain ⟨_, rfl, _⟩ := h
    rfl
  · obtain ⟨z, rfl, lz, q⟩ := h
    refine ⟨_, (pss_cons (ps_if (pw_or (pt_not (pt_chain op_le op_le pe_int (pe_callB call_len_str (by rfl) T.m_len PySem.boot_len (pa_cons (pv 0) pa_nil)) (pe_gi (by rfl) T.c_LONGEST_NAME))) (pw_or (pt_cmpR op_notIn_sign (pe_ix ix_str (pv 0) pe_int (fun _ _ => rfl)) (pe_gs (by rfl) T.c_LETTERS) (by with_unfolding_all rfl)) (pw_or1 (pt_val (pe_call (ok_is_reserved T) (hr.mono (by decide)) (by rfl) T.g_is_reserved T.F_is_reserved.kp T.b_is_reserved .nil pass0 (pa_cons (pv 0) pa_nil)))))).pt
  (pss_one (ps_ret pe_bl))
  pss_nil)
  (pss_one (ps_ret (pe_callB (cr_all rfl) (by rfl) T.m_all (by decide +kernel) (pa_cons (pe_lc (own := [("character", 1)]) (g := gName 1) (tt := tYes) rfl sc__is_name.nd (pi_str (pv 0)) (blkOk_by (N := ["text", "character"]) (sc := defScope s__is_name) (by decide +kernel)) (fun _ _ _ _ _ => pg_name (i := 1) sc__is_name.nd rfl (Or.inl rfl)) (fun _ _ _ _ _ => pts_nil) (fun _ _ _ _ _ => (pe_or (pe_cmpR op_in_sign (pv 1) (pe_gs (by rfl) T.c_LETTERS) (by with_unfolding_all rfl)) (pe_or (pe_cmpR op_in_sign (pv 1) (pe_gs (by rfl) T.c_DIGITS) (by with_unfolding_all rfl)) (pe_one (pe_cmpR op_eq (pv 1) pe_str (nomark _))))))) pa_nil))))), ?_⟩
    rw [show ∀ a0 : V, L2.start ["text", "character"] [a0] = [some a0, none] from fun _ => rfl]
    have bad : ¬ NameOk z → Q (.bl false) H := fun n => by have := q H (Same.refl _); rw [nameB_f n] at this; exact this
    walk_at "my rn"
    refine ⟨z, rfl, Rd.sz (by omega), ?_⟩
    walk_at "my rn"
    by_cases l1 : 1 ≤ z.length
    case neg =>
      rw [decide_eq_false (show ¬ (1 : Int) ≤ (z.length : Int) by omega)]
      refine Rd.ifF ?_
      walk_at "my rn"
      exact bad fun h => l1 h.l1
    rw [decide_eq_true (show (1 : Int) ≤ (z.length : Int) by omega)]
    refine Rd.ifT ?_
    walk_at "my rn"
    by_cases l2 : z.length ≤ 16
    case neg =>
      rw [decide_eq_false (show ¬ (z.length : Int) ≤ 16 by omega)]
      walk_at "my rn"
      exact bad fun h => l2 h.l2
    rw [decide_eq_true (show (z.length : Int) ≤ 16 by omega)]
    walk_at "my rn"
    obtain ⟨c, hc⟩ : ∃ c, z.cps.toList[0]? = some c := ⟨_, List.getElem?_eq_getElem (by rw [Array.length_toList]; exact l1)⟩
    refine ⟨z, 0, c, rfl, rfl, Rd.sz (by omega), atI_nat (j := 0) hc, ?_⟩
    walk_at "my rn"
    refine ⟨c, LETS, rfl, rfl, ?_⟩
    by_cases cl : c ∈ LETS.cps.toList
    case neg =>
      rw [decide_eq_false cl]
      walk_at "my rn"
      exact bad fun h => by obtain ⟨c', e1, e2⟩ := h.h; rw [hc] at e1; cases e1; exact cl e2
    rw [decide_eq_true cl]
    walk_at "my rn"
    refine ⟨z, rfl, ?_⟩
    by_cases rs : z ∈ RESV
    case pos =>
      rw [decide_eq_true rs]
      walk_at "my rn"
      exact bad fun h => h.r rs
    rw [decide_eq_false rs]
    walk_at "my rn"
    intro D nD
    refine Rd.lc_rel walk_str (fun j v _ => ∃ c, z.cps.toList[j]? = some c ∧ v = .bl (chB c)) nD (show z.length ≤ 100000 by omega) (fun _ _ _ _ h _ => h) (fun _ _ => trivial) (fun j x Hjo Hj Kt hj b hDl y kt => ?_) (fun H1 ys ly hy s1 hD => ?_)
    · obtain ⟨rfl, c2, hc2, rfl⟩ := y
      have hc2' : z.cps.toList[j]? = some c2 := by rw [Array.getElem?_toList]; exact hc2
      simp only [List.map_cons, List.map_nil, L2.wipe, List.set_cons_succ, List.set_cons_zero]
      walk_at "my rn"
      refine ⟨rfl, ?_⟩
      walk_at "my rn"
      refine ⟨c2, LETS, rfl, rfl, ?_⟩
      by_cases hL : c2 ∈ LETS.cps.toList
      · rw [decide_eq_true hL]
        walk_at "my rn"
        exact kt _ _ ⟨c2, hc2', by rw [show chB c2 = true from decide_eq_true (.inl hL)]⟩ (Same.refl _)
      · rw [decide_eq_false hL]
        walk_at "my rn"
        refine ⟨c2, DIGS, rfl, rfl, ?_⟩
        by_cases hD : c2 ∈ DIGS.cps.toList
        · rw [decide_eq_true hD]
          walk_at "my rn"
          exact kt _ _ ⟨c2, hc2', by rw [show chB c2 = true from decide_eq_true (.inr (.inl hD))]⟩ (Same.refl _)
        · rw [decide_eq_false hD]
          walk_at "my rn"
          by_cases h5 : c2 = 95
          · subst h5
            exact kt _ _ ⟨95, hc2', by decide +kernel⟩ (Same.refl _)
          · refine kt _ _ ⟨c2, hc2', ?_⟩ (Same.refl _)
            have e95 : ("_" : Str) = ⟨#[95]⟩ := by decide +kernel
            rw [decide_eq_false (fun z => h5 (by have z := V.str.inj z; rw [e95] at z; injection z with z; simpa using z)), show chB c2 = false from decide_eq_false (fun h => h.elim hL fun h => h.elim hD h5)]
    · have ey : ys = (z.cps.toList.map chB).map V.bl := by
        refine List.ext_getElem? fun i => ?_
        rw [List.getElem?_map, List.getElem?_map]
        by_cases hi : i < ys.length
        · have e := List.getElem?_eq_getElem hi
          obtain ⟨c, h1, h2⟩ := hy i _ e
          rw [e, h1, h2]; rfl
        · rw [List.getElem?_eq_none (by omega), List.getElem?_eq_none (by rw [Array.length_toList, ← ly]; omega)]; rfl
      rw [ey] at hD
      walk_at "my rn"
      refine ⟨D, _, rfl, SqL.of hD, ?_⟩
      have eb : (z.cps.toList.map chB).all id = nameB z := by
        rw [List.all_map]
        show z.cps.toList.all chB = _
        by_cases h : ∀ c ∈ z.cps.toList, chB c = true
        · rw [List.all_eq_true.mpr h]
          exact (decide_eq_true ⟨l1, l2, ⟨c, hc, cl⟩, rs, fun c m => of_decide_eq_true (h c m)⟩).symm
        · rw [nameB_f fun ok => h fun c m => decide_eq_true (ok.c c m)]
          exact Bool.eq_false_iff.mpr fun z => h (List.all_eq_true.mp z)
      rw [eb]
      exact q _ s1
def sp__are_times : Sp := fun vs H Q _ => ∃ e w : Int, vs = [.int e, .int w] ∧ Q (.bl (decide (1 ≤ w) && (decide (w ≤ e) && decide (e ≤ 4194304)))) H
theorem ok__are_times (T : Top P K mg) : FnOk P w K mg base CX0 1 T.a__are_times T.d__are_times ["every", "within"]  sp__are_times := by
  refine T.F__are_times.ok sc__are_times (fun vs H Q E h => ?_) (fun cdv A outer s H vs Q E hr h => ?_)
  · obtain ⟨_, _, rfl, _⟩ := h
    rfl
  · obtain ⟨e, w, rfl, q⟩ := h
    refine ⟨_, (pss_one (ps_ret (pe_chain3 op_le op_le op_le pe_int (pv 1) (pv 0) (pe_gi (by rfl) T.c_LONGEST_TIME)))), ?_⟩
    rw [show ∀ a0 a1 : V, L2.start ["every", "within"] [a0, a1] = [some a0, some a1] from fun _ _ => rfl]
    walk_at "my rn"
    cases h1 : decide (1 ≤ w) with
    | false =>
      rw [h1] at q
      exact Rd.ifF q
    | true =>
      rw [h1] at q
      refine Rd.ifT ?_
      walk_at "my rn"
      cases h2 : decide (w ≤ e) with
      | false =>
        rw [h2] at q
        exact Rd.ifF q
      | true =>
        rw [h2] at q
        refine Rd.ifT ?_
        walk_at "my rn"
        exact q
/-- what is taken: a list of names or a scope -/
def TakenBy (H : Hp) (T_ : Addr) (tk : Str → Bool) : Prop := (∃ ns : List Str, H T_ = some (.lst (ns.map V.str)) ∧ ∀ z, tk z = decide (z ∈ ns)) ∨ ∃ m : List (Str × Int), H T_ = some (DSI m) ∧ ∀ z, tk z = (lkI m z).isSome
def Res (C : Addr) (r : Option Str) (H : Hp) (Q : VK) (E : XK) : Prop := (r = none → ∀ H', Same H H' → Q .non H') ∧ ∀ z, r = some z → RuleOut C z H E
theorem RuleOut.same {C : Addr} {z : Str} {H H1 : Hp} {E : XK} (h : RuleOut C z H E) (s : Same H H1) : RuleOut C z H1 E := fun H' d s1 n e => h H' d (s.trans s1) (s.free n) e
def mName (z : Str) (tk : Str → Bool) : Option Str := if nameB z && !tk z then none else some "name"
def sp__check_name (K : PySem.W.Frag) (C : Addr) : Sp := fun vs H Q E => ∃ (z : Str) (T_ : Addr) (tk : Str → Bool), vs = [.str z, .ref T_] ∧ z.length ≤ 10000 ∧ TakenBy H T_ tk ∧ Res C (mName z tk) H Q E
theorem ok__check_name (T : Top P K mg) : FnOk P w K mg base (L2.CX P w) 4 T.a__check_name T.d__check_name ["name", "taken"]  (sp__check_name K T.C_RuleError) := by
  refine T.F__check_name.okX sc__check_name (fun vs H Q E h => ?_) (fun cdv A outer s H vs Q E hr h => ?_)
  · obtain ⟨_, _, _, rfl, _⟩ := h
    rfl
  · obtain ⟨z, T_, tk, rfl, lz, ht, q, qe⟩ := h
    refine ⟨_, (pss_one (ps_expr (pe_callS (ok__demand T) (hr.mono (by decide)) (by rfl) T.g__demand T.F__demand.kp T.b__demand (fun σ => passAt (takes_of rfl rfl rfl rfl) σ) (pa_cons (pe_and (pe_call (ok__is_name T) (hr.mono (by decide)) (by rfl) T.g__is_name T.F__is_name.kp T.b__is_name .nil pass0 (pa_cons (pv 0) pa_nil)) (pe_one (pe_orr (pe_cmpR op_notIn_seq (pv 0) (pv 1) (by with_unfolding_all rfl)) (pe_cmp (pc_dnotin (hu_of hr) (pv 0) (pv 1)))))) (pa_cons pe_str pa_nil))))), ?_⟩
    rw [show ∀ a0 a1 : V, L2.start ["name", "taken"] [a0, a1] = [some a0, some a1] from fun _ _ => rfl]
    walk_at "my rn"
    refine ⟨z, rfl, lz, fun H1 s1 => ?_⟩
    unfold mName at q qe
    cases hn : nameB z with
    | false =>
      rw [hn] at q qe
      walk_at "my rn"
      exact ⟨false, "name", rfl, by decide, fun e => (by cases e), fun _ => (qe "name" rfl).same s1⟩
    | true =>
      rw [hn] at q qe
      have fin : ∀ (Q' : VK) (E' : XK), (tk z = false → Q' .non H1) → (tk z = true → RuleOut T.C_RuleError "name" H1 E') → sp__demand T.C_RuleError [.bl (!tk z), .str "name"] H1 Q' E' := fun Q' E' a b => by
        refine ⟨_, "name", rfl, by decide, fun e => a (by simpa using e), fun e => b (by simpa using e)⟩
      have q1 : tk z = false → ∀ H', Same H H' → Q .non H' := fun e => q (by rw [e]; rfl)
      have q2 : tk z = true → RuleOut T.C_RuleError "name" H1 E := fun e => (qe "name" (by rw [e]; rfl)).same s1
      walk_at "my rn"
      rcases ht with ⟨ns, ht, hk⟩ | ⟨m, ht, hk⟩
      · have ht1 := s1 _ _ ht
        refine .inl ?_
        walk_at "my rn"
        refine ninStrs ht1 ?_
        rw [← hk z]
        exact fin _ _ (fun e => q1 e _ s1) q2
      · have ht1 := s1 _ _ ht
        refine .inr ?_
        walk_at "my rn"
        refine Rd.dnotS ht1 ?_
        rw [lks_i]
        have e : (Option.map V.int (lkI m z)).isSome = tk z := by rw [hk z]; cases lkI m z <;> rfl
        rw [e]
        exact fin _ _ (fun e => q1 e _ s1) q2
/-- a scope with one more name -/
def mWith (z : Str) (k : Int) (m : List (Str × Int)) : Except Str (List (Str × Int)) := match mName z (fun z => (lkI m z).isSome) with | none => .ok (m ++ [(z, k)]) | some r => .error r
def sp__with_name (K : PySem.W.Frag) (C : Addr) : Sp := fun vs H Q E => ∃ (T_ : Addr) (z : Str) (k : Int) (m : List (Str × Int)), vs = [.ref T_, .str z, .int k] ∧ z.length ≤ 10000 ∧ H T_ = some (DSI m) ∧ m.length ≤ 500 ∧
  (∀ m', mWith z k m = .ok m' → ∀ (p : Addr) H', H p = none → Same H H' → H' p = some (DSI m') → Q (.ref p) H') ∧ ∀ r, mWith z k m = .error r → RuleOut C r H E
theorem ok__with_name (T : Top P K mg) : FnOk P w K mg base (L2.CX P w) 5 T.a__with_name T.d__with_name ["scope", "name", "kind"]  (sp__with_name K T.C_RuleError) := by
  refine T.F__with_name.okX sc__with_name (fun vs H Q E h => ?_) (fun cdv A outer s H vs Q E hr h => ?_)
  · obtain ⟨_, _, _, _, rfl, _⟩ := h
    rfl
  · obtain ⟨T_, z, k, m, rfl, lz, ht, lm, q, qe⟩ := h
    refine ⟨_, (pss_cons (ps_expr (pe_callS (ok__check_name T) (hr.mono (by decide)) (by rfl) T.g__check_name T.F__check_name.kp T.b__check_name (fun σ => passAt (takes_of rfl rfl rfl rfl) σ) (pa_cons (pv 1) (pa_cons (pv 0) pa_nil))))
  (pss_one (ps_ret (pe_dstar (pv 0) (pv 1) (pv 2))))), ?_⟩
    rw [show ∀ a0 a1 a2 : V, L2.start ["scope", "name", "kind"] [a0, a1, a2] = [some a0, some a1, some a2] from fun _ _ _ => rfl]
    walk_at "my rn"
    refine ⟨z, T_, _, rfl, lz, .inr ⟨m, ht, fun _ => rfl⟩, fun e0 H1 s1 => ?_, fun r e0 => qe r (by unfold mWith; rw [e0])⟩
    have hn : lkI m z = none := by
      unfold mName at e0
      cases e : lkI m z with
      | none => rfl
      | some v =>
        have e0 : (if (nameB z && !(lkI m z).isSome) = true then none else some ("name" : Str)) = none := e0
        rw [e] at e0
        have e0 : (if (nameB z && !true) = true then none else some ("name" : Str)) = none := e0
        rw [Bool.not_true, Bool.and_false] at e0
        cases e0
    have q := q (m ++ [(z, k)]) (by unfold mWith; rw [e0])
    walk_at "my rn"
    intro p H2 np s2 hp
    have ht2 := s2 _ _ (s1 _ _ ht)
    have tp : T_ ≠ p := new_off' (s1 _ _ ht) np
    walk_at "my rn"
    refine ⟨T_, _, rfl, hp, tp, .inl ht2, by rw [List.length_map, List.length_map]; omega, fun p2 np2 => ?_⟩
    walk_at "my rn"
    have hp2 : (upd H2 p (DSI m)) p = some (DSI m) := upd_same
    have pp : p2 ≠ p := fun z => by rw [z, hp2] at np2; cases np2
    refine ⟨by rw [upd_ne pp.symm]; exact hp2, upd_same, pp, .inr z, rfl, ?_⟩
    have nk : ∀ q ∈ (m.map fun q => (q.1, V.int q.2)), q.1 ≠ z := fun q mq e => by
      obtain ⟨r, mr, rfl⟩ := List.mem_map.mp mq
      have : (m.find? fun p => decide (p.1 = z)) = none := by
        unfold lkI at hn
        cases f : m.find? fun p => decide (p.1 = z) with
        | none => rfl
        | some v => rw [f] at hn; cases hn
      have := List.find?_eq_none.mp this r mr
      exact this (decide_eq_true e)
    rw [Rd.put_new nk]
    have H0p : H p = none := (s1.free np)
    refine q p _ H0p (fun b y e => ?_) (by rw [upd_same]; show some (HO.dK (((m.map fun q => (q.1, V.int q.2)) ++ [(z, V.int k)]).map Rd.kS)) = some (HO.dK (((m ++ [(z, k)]).map fun q => (q.1, V.int q.2)).map Rd.kS)); rw [List.map_append (l₁ := m)]; rfl)
    have e2 := s2 _ _ (s1 _ _ e)
    have bp : b ≠ p := new_off' e H0p
    have bp2 : b ≠ p2 := fun z => by rw [← z, upd_ne bp, e2] at np2; cases np2
    rw [upd_ne bp, upd_ne bp2, upd_ne bp2, upd_ne bp]
    exact e2
end


set_option Elab.async false
set_option linter.all false
set_option maxRecDepth 100000
set_option maxHeartbeats 1000000
--@@rec _check_statements _check_statement

--@@guards
/-! ### data stands under more -/
mutual
theorem dp_same {K : PySem.W.Frag} {H H' : Hp} (s : Same H H') : ∀ {v : V} {d : PyData}, Dp K H v d → Dp K H' v d
  | _, _, .non => .non
  | _, _, .bl b => .bl b
  | _, _, .int i => .int i
  | _, _, .str x => .str x
  | _, _, .lst h a => .lst (s.seq h) (dps_same s a)
  | _, _, .tup h a => .tup (Same.seqT s h) (dps_same s a)
theorem dps_same {K : PySem.W.Frag} {H H' : Hp} (s : Same H H') : ∀ {vs : List V} {ds : List PyData}, DpAll K H vs ds → DpAll K H' vs ds
  | _, _, .nil => .nil
  | _, _, .cons a b => .cons (dp_same s a) (dps_same s b)
end
theorem dps_snoc {K : PySem.W.Frag} {H : Hp} : ∀ {vs : List V} {ds : List PyData} {v : V} {d : PyData}, DpAll K H vs ds → Dp K H v d → DpAll K H (vs ++ [v]) (ds ++ [d])
  | _, _, _, _, .nil, h => .cons h .nil
  | _, _, _, _, .cons a b, h => .cons a (dps_snoc b h)
theorem dps_len {K : PySem.W.Frag} {H : Hp} : ∀ {vs : List V} {ds : List PyData}, DpAll K H vs ds → vs.length = ds.length
  | _, _, .nil => rfl
  | _, _, .cons _ b => by rw [List.length_cons, List.length_cons, dps_len b]
/-! ### expressions and statements as data -/
def Word (a : Int) : Prop := 0 ≤ a ∧ a < 4294967296
inductive Ex
  | num (n : Int)
  | cell (s : Str)
  | at (s : Str) (i : Ex)
  | un (k : Str) (a : Ex)
  | bin (k : Str) (a b : Ex)
def Ex.depth : Ex → Nat
  | num _ => 1
  | cell _ => 1
  | «at» _ i => 1 + i.depth
  | un _ a => 1 + a.depth
  | bin _ a b => 1 + max a.depth b.depth
def Ex.d : Ex → PyData
  | num n => .tuple [.str "num", .int n]
  | cell s => .tuple [.str "cell", .str s]
  | «at» s i => .tuple [.str "at", .str s, i.d]
  | un k a => .tuple [.str k, a.d]
  | bin k a b => .tuple [.str k, a.d, b.d]
def UNS : List Str := ["neg", "inv", "not"]
def BINS : List Str := ["+", "-", "*", "/", "mod", "&", "|", "^", "<<", ">>", "<", "<=", "~<", "~<=", "==", "!=", "and", "or"]
structure Env where
  cells : List (Str × Int)
  vars : List Str
  ports : List (Str × Str)
  calls : List (Str × Str × Nat)
  loops : Int
/-- an expression over the names of env -/
def ExW (g : Env) : Ex → Prop
  | .num n => Word n
  | .cell s => (s, 0) ∈ g.cells ∨ s ∈ g.vars
  | .at s i => (∃ z : Int, 0 < z ∧ (s, z) ∈ g.cells) ∧ ExW g i
  | .un k a => k ∈ UNS ∧ ExW g a
  | .bin k a b => k ∈ BINS ∧ ExW g a ∧ ExW g b
inductive Pl
  | cell (s : Str)
  | at (s : Str) (i : Ex)
def Pl.d : Pl → PyData
  | cell s => .tuple [.str "cell", .str s]
  | «at» s i => .tuple [.str "at", .str s, i.d]
def PlW (g : Env) : Pl → Prop
  | .cell s => (s, 0) ∈ g.cells
  | .at s i => (∃ z : Int, 0 < z ∧ (s, z) ∈ g.cells) ∧ ExW g i ∧ i.depth ≤ 2
def optD : Option PyData → PyData
  | none => .none
  | some d => d
inductive Stm
  | set (p : Pl) (e : Ex)
  | ifs (e : Ex) (a b : List Stm)
  | loop (name : Str) (count : Int) (e : Option Ex) (body : List Stm)
  | call (p : Option Pl) (o op : Str) (args : List Ex)
  | read (p : Pl) (port : Str)
  | write (port : Str) (e : Ex)
mutual
def Stm.d : Stm → PyData
  | .set p e => .tuple [.str "set", p.d, e.d]
  | .ifs e a b => .tuple [.str "if", e.d, .list (stmsD a), .list (stmsD b)]
  | .loop n k e b => .tuple [.str "loop", .str n, .int k, optD (e.map Ex.d), .list (stmsD b)]
  | .call p o op as => .tuple [.str "call", optD (p.map Pl.d), .str o, .str op, .list (as.map Ex.d)]
  | .read p t => .tuple [.str "read", p.d, .str t]
  | .write t e => .tuple [.str "write", .str t, e.d]
def stmsD : List Stm → List PyData
  | [] => []
  | s :: r => s.d :: stmsD r
end
def loopName (n : Nat) : Str := ("i" : Str) ++ (Str.ofString (toString (n : Int)))

/-! ### a heap without some places -/
open Classical in
noncomputable def Cut (S : Addr → Prop) (H : Hp) : Hp := fun a => if S a then none else H a
theorem Cut.sub {S : Addr → Prop} {H : Hp} : Same (Cut S H) H := fun a x h => by
  unfold Cut at h
  split at h
  · cases h
  · exact h
theorem Cut.at {S : Addr → Prop} {H : Hp} {a : Addr} {x : HO} (n : ¬ S a) (h : H a = some x) : Cut S H a = some x := by
  unfold Cut; rw [if_neg n]; exact h
theorem Cut.get {S : Addr → Prop} {H : Hp} {a : Addr} {x : HO} (h : Cut S H a = some x) : ¬ S a ∧ H a = some x := by
  unfold Cut at h
  split at h
  · cases h
  · rename_i n; exact ⟨n, h⟩
theorem Cut.mono {S S' : Addr → Prop} {H : Hp} (i : ∀ a, S' a → S a) : Same (Cut S H) (Cut S' H) := fun a x h => by
  obtain ⟨n, e⟩ := Cut.get h
  exact Cut.at (fun m => n (i a m)) e
theorem Cut.same {S : Addr → Prop} {H H' : Hp} (s : Same H H') : Same (Cut S H) (Cut S H') := fun a x h => by
  obtain ⟨n, e⟩ := Cut.get h
  exact Cut.at n (s a x e)
/-- all is kept but at the places left out -/
theorem Cut.keep {S : Addr → Prop} {H H' : Hp} (k : ∀ b x, ¬ S b → H b = some x → H' b = some x) : Same (Cut S H) (Cut S H') := fun a x h => by
  obtain ⟨n, e⟩ := Cut.get h
  exact Cut.at n (k a x n e)
theorem Cut.upd {S : Addr → Prop} {H : Hp} {a : Addr} {o : HO} (h : S a) : Same (Cut S H) (Cut S (upd H a o)) := Cut.keep fun b x n e => by
  rw [L2.upd_ne (fun z => n (by rw [z]; exact h))]; exact e
/-- a place that was free may be left out -/
theorem Cut.free {S : Addr → Prop} {H H' : Hp} {l : Addr} (s : Same H H') (n : H l = none) : Same (Cut S H) (Cut (fun a => S a ∨ a = l) H') := fun a x h => by
  obtain ⟨m, e⟩ := Cut.get h
  refine Cut.at ?_ (s a x e)
  rintro (z | rfl)
  · exact m z
  · rw [n] at e; cases e
theorem Cut.free2 {S : Addr → Prop} {H H' : Hp} {l m : Addr} (s : Same H H') (n : H l = none) (n2 : H m = none) : Same (Cut S H) (Cut (fun a => S a ∨ a = l ∨ a = m) H') := fun a x h => by
  obtain ⟨k, e⟩ := Cut.get h
  refine Cut.at ?_ (s a x e)
  rintro (z | rfl | rfl)
  · exact k z
  · rw [n] at e; cases e
  · rw [n2] at e; cases e
theorem Cut.all {H H' : Hp} (s : Same H H') : Same H (Cut (fun _ => False) H') := fun _ x h => Cut.at id (s _ x h)
/-- the places left out stand -/
def Live (S : Addr → Prop) (H : Hp) : Prop := ∀ a, S a → ∃ x, H a = some x
theorem Live.same {S : Addr → Prop} {H H' : Hp} (l : Live S H) (s : Same H H') : Live S H' := fun a m => let ⟨x, e⟩ := l a m; ⟨x, s a x e⟩
theorem Live.off {S : Addr → Prop} {H : Hp} {a : Addr} (l : Live S H) (n : H a = none) : ¬ S a := fun m => by
  obtain ⟨x, e⟩ := l a m
  rw [n] at e; cases e
theorem live0 {H : Hp} : Live (fun _ => False) H := fun _ h => h.elim
theorem Live.or {S : Addr → Prop} {H : Hp} {a : Addr} {x : HO} (l : Live S H) (h : H a = some x) : Live (fun b => S b ∨ b = a) H := fun b m => by
  rcases m with m | rfl
  · exact l b m
  · exact ⟨x, h⟩
/-! ### data: what it looks like -/
theorem dpT {K : PySem.W.Frag} {H : Hp} {v : V} {ds : List PyData} (h : Dp K H v (.tuple ds)) : ∃ t xs, v = .ref t ∧ SqT K H t xs ∧ DpAll K H xs ds := by
  cases h with
  | tup a b => exact ⟨_, _, rfl, a, b⟩
theorem dpL {K : PySem.W.Frag} {H : Hp} {v : V} {ds : List PyData} (h : Dp K H v (.list ds)) : ∃ t xs, v = .ref t ∧ SqL K H t xs ∧ DpAll K H xs ds := by
  cases h with
  | lst a b => exact ⟨_, _, rfl, a, b⟩
theorem dpS {K : PySem.W.Frag} {H : Hp} {v : V} {x : Str} (h : Dp K H v (.str x)) : v = .str x := by cases h; rfl
theorem dpI {K : PySem.W.Frag} {H : Hp} {v : V} {x : Int} (h : Dp K H v (.int x)) : v = .int x := by cases h; rfl
theorem dpN {K : PySem.W.Frag} {H : Hp} {v : V} (h : Dp K H v .none) : v = .non := by cases h; rfl
theorem dp0 {K : PySem.W.Frag} {H : Hp} {xs : List V} (h : DpAll K H xs []) : xs = [] := by cases h; rfl
theorem dp1 {K : PySem.W.Frag} {H : Hp} {xs : List V} {d : PyData} {ds : List PyData} (h : DpAll K H xs (d :: ds)) : ∃ v vs, xs = v :: vs ∧ Dp K H v d ∧ DpAll K H vs ds := by
  cases h with
  | cons a b => exact ⟨_, _, rfl, a, b⟩
theorem dp_at {K : PySem.W.Frag} {H : Hp} : ∀ {xs : List V} {ds : List PyData} {i : Nat} {d : PyData}, DpAll K H xs ds → ds[i]? = some d → ∃ v, xs[i]? = some v ∧ Dp K H v d
  | _, _, _, _, .nil, h => by simp at h
  | _, _, 0, _, .cons a _, h => by simp at h; subst h; exact ⟨_, rfl, a⟩
  | _, _, i + 1, _, .cons _ b, h => dp_at (i := i) b (by simpa using h)
theorem dp_at' {K : PySem.W.Frag} {H : Hp} : ∀ {xs : List V} {ds : List PyData} {i : Nat} {v : V}, DpAll K H xs ds → xs[i]? = some v → ∃ d, ds[i]? = some d ∧ Dp K H v d
  | _, _, _, _, .nil, h => by simp at h
  | _, _, 0, _, .cons a _, h => by simp at h; subst h; exact ⟨_, rfl, a⟩
  | _, _, i + 1, _, .cons _ b, h => dp_at' (i := i) b (by simpa using h)
theorem dps_app {K : PySem.W.Frag} {H : Hp} : ∀ {vs ws : List V} {ds es : List PyData}, DpAll K H vs ds → DpAll K H ws es → DpAll K H (vs ++ ws) (ds ++ es)
  | _, _, _, _, .nil, h => h
  | _, _, _, _, .cons a b, h => .cons a (dps_app b h)
theorem dps_set {K : PySem.W.Frag} {H : Hp} {v : V} {d : PyData} (h : Dp K H v d) : ∀ {vs : List V} {ds : List PyData} (i : Nat), DpAll K H vs ds → DpAll K H (vs.set i v) (ds.set i d)
  | _, _, _, .nil => .nil
  | _, _, 0, .cons _ b => .cons h b
  | _, _, i + 1, .cons a b => .cons a (dps_set h i b)
theorem dps_of {K : PySem.W.Frag} {H : Hp} : ∀ {vs : List V} {ds : List PyData}, vs.length = ds.length → (∀ (i : Nat) (v : V) (d : PyData), vs[i]? = some v → ds[i]? = some d → Dp K H v d) → DpAll K H vs ds
  | [], [], _, _ => .nil
  | [], _ :: _, h, _ => by simp at h
  | _ :: _, [], h, _ => by simp at h
  | v :: vs, d :: ds, h, f => .cons (f 0 v d rfl rfl) (dps_of (by simpa using h) fun i a b x y => f (i + 1) a b (by simpa using x) (by simpa using y))

/-! ### rows with names -/
/-- the rows' items 1 are these names -/
def NamedR (K : PySem.W.Frag) (H : Hp) (xs : List V) (ns : List Str) : Prop := ns.length = xs.length ∧ ∀ (i : Nat) v, xs[i]? = some v → ∃ (t : Addr) (fs : List V) (s : Str), v = .ref t ∧ SqT K H t fs ∧ fs[1]? = some (.str s) ∧ ns[i]? = some s
theorem idx_le {x : Str} : ∀ {ns : List Str} {i : Nat}, ns[i]? = some x → ns.idxOf x ≤ i
  | [], _, h => by cases h
  | y :: r, 0, h => by
    cases (Option.some.inj h)
    simp
  | y :: r, i + 1, h => by
    have h1 := idx_le (ns := r) (i := i) (by simpa using h)
    rw [List.idxOf_cons]
    cases (y == x)
    · show r.idxOf x + 1 ≤ i + 1
      omega
    · exact Nat.zero_le _
/-- the first index of a name, or -1 -/
def findN (ns : List Str) (x : Str) : Int := if x ∈ ns then ((ns.idxOf x : Nat) : Int) else -1
theorem findN_at {ns : List Str} {x : Str} {i : Nat} (h : ns[i]? = some x) (hl : ∀ j, j < i → ns[j]? ≠ some x) : findN ns x = i := by
  have hm : x ∈ ns := List.mem_of_getElem? h
  unfold findN
  rw [if_pos hm]
  have h1 : ns.idxOf x < ns.length := List.idxOf_lt_length_iff.mpr hm
  have h2 : ns[ns.idxOf x]? = some x := by
    rw [List.getElem?_eq_getElem h1, List.getElem_idxOf]
  have h3 : ¬ ns.idxOf x < i := fun z => hl _ z h2
  have h4 : ns.idxOf x ≤ i := idx_le h
  congr 1
  omega
section
variable {P : Program} {w : World} {K : PySem.W.Frag} {mg : Str → Option Value} {base : Heap}
def sp_find (K : PySem.W.Frag) : Sp := fun vs H Q _ => ∃ (L : Addr) (xs : List V) (ns : List Str) (x : Str), vs = [.ref L, .str x] ∧ SqL K H L xs ∧ NamedR K H xs ns ∧ xs.length < 1000 ∧ ∀ H', Same H H' → Q (.int (findN ns x)) H'
theorem ok_find (T : Top P K mg) : FnOk P w K mg base CX0 1 T.a_find T.d_find ["rows", "name"]  (sp_find K) := by
  refine T.F_find.ok sc_find (fun vs H Q E h => ?_) (fun cdv A outer s H vs Q E hr h => ?_)
  · obtain ⟨_, _, _, _, rfl, _⟩ := h
    rfl
  · obtain ⟨L, xs, ns, x, rfl, hl, ⟨nl, nn⟩, few, q⟩ := h
    refine ⟨_, (pss_cons (ps_for PassesOwn.never rfl (pi_enum (by rfl) T.m_enumerate (pa_cons (pv 0) pa_nil)) (pg_tup rfl (pgs_cons (pg_name (i := 2) sc_find.nd rfl (by first | exact Or.inl rfl | exact Or.inr rfl)) (pgs_cons (pg_name (i := 3) sc_find.nd rfl (by first | exact Or.inl rfl | exact Or.inr rfl)) pgs_nil)))
  (pss_one (ps_if (pt_cmpR op_eq (pe_ix ix_tup (pv 3) pe_int (fun _ _ => rfl)) (pv 1) (nomark _))
  (pss_one (ps_ret (pv 2)))
  pss_nil)))
  (pss_one (ps_ret (pe_un un_neg pe_int)))), ?_⟩
    refine ⟨_, rfl, L, _, rfl, hl, for_enum (xs := xs) (fun i σ H' => ∃ y2 y3, σ = [some (.ref L), some (.str x), y2, y3] ∧ Same H H' ∧ ∀ (j : Nat), j < i → ns[j]? ≠ some x) ⟨none, none, rfl, fun _ _ h => h, fun j hj => absurd hj (Nat.not_lt_zero _)⟩
        (fun i σ H' _ ⟨_, _, _, s1, _⟩ => s1.seq hl) ?_ ?_⟩
    · rintro i v Tt σ H' hv ⟨y2, y3, rfl, s1, hf⟩ nT
      obtain ⟨t, fs, s, rfl, ht, h1, h2⟩ := nn i v hv
      have s2 : Same H (upd H' Tt (.tup [.int i, .ref t])) := s1.trans (same_new nT)
      refine ⟨Tt, _, rfl, SqT.of upd_same, rfl, _, _, rfl, _, _, rfl, rfl, ?_⟩
      have ht2 := s2.seqT ht
      dsimp only [List.set]
      walk_at "my rn"
      refine Rd.ixTq ht2 (Rd.at_val (j := 1) rfl h1) ?_
      walk_at "my rn"
      refine Rd.ifD (fun e => ?_) fun e => ?_
      · cases e
        walk_at "my rn"
        have q1 := q _ s2
        rw [findN_at h2 hf] at q1
        exact q1
      · exact ⟨_, _, rfl, s2, fun j hj z => by
          by_cases ji : j = i
          · subst ji
            rw [h2] at z
            cases z
            exact e rfl
          · exact hf j (by omega) z⟩
    · rintro σ H1 ⟨y2, y3, rfl, s1, hf⟩
      have e : findN ns x = -1 := by
        unfold findN
        rw [if_neg fun m => ?_]
        obtain ⟨j, hj⟩ := List.getElem?_of_mem m
        have := (List.getElem?_eq_some_iff.mp hj).1
        exact hf j (by omega) hj
      have q1 := q H1 s1
      rw [e] at q1
      walk_at "my rn"
      exact q1
end

/-! ### what == and index compare: data under an object -/
def DOk (n : Nat) (d : PyData) : Prop := d.canLay0 = true ∧ d.depth ≤ n
theorem DOk.shaped {n : Nat} {d : PyData} (h : DOk n d) (hn : n ≤ 64) : SeqAt.shaped d = true := by
  unfold SeqAt.shaped
  rw [h.1, decide_eq_true (Nat.le_trans h.2 hn)]
  rfl
theorem DOk.mono {n m : Nat} {d : PyData} (h : DOk n d) (hn : n ≤ m) : DOk m d := ⟨h.1, Nat.le_trans h.2 hn⟩
theorem dok_int {n : Nat} {i : Int} : DOk n (.int i) := ⟨by simp only [PyData.canLay0], by simp only [PyData.depth]; exact Nat.zero_le _⟩
theorem dok_non {n : Nat} : DOk n .none := ⟨by simp only [PyData.canLay0], by simp only [PyData.depth]; exact Nat.zero_le _⟩
theorem dok_bl {n : Nat} {b : Bool} : DOk n (.bool b) := ⟨by simp only [PyData.canLay0], by simp only [PyData.depth]; exact Nat.zero_le _⟩
theorem dok_str {n : Nat} {x : Str} (h : PyData.strOk x = true) : DOk n (.str x) := ⟨by simp only [PyData.canLay0]; exact h, by simp only [PyData.depth]; exact Nat.zero_le _⟩
theorem dok_all {n : Nat} : ∀ {ds : List PyData}, (∀ d ∈ ds, DOk n d) → PyData.canLayAll0 ds = true ∧ PyData.depthAll ds ≤ n
  | [], _ => ⟨by simp only [PyData.canLayAll0], by simp only [PyData.depthAll]; exact Nat.zero_le _⟩
  | d :: r, h => by
    obtain ⟨a, b⟩ := dok_all (ds := r) fun x m => h x (List.mem_cons_of_mem _ m)
    obtain ⟨c, e⟩ := h d List.mem_cons_self
    exact ⟨by simp only [PyData.canLayAll0, c, a] <;> rfl, by simp only [PyData.depthAll]; omega⟩
theorem dok_list {n : Nat} {ds : List PyData} (h : ∀ d ∈ ds, DOk n d) : DOk (n + 1) (.list ds) := by
  obtain ⟨a, b⟩ := dok_all h
  exact ⟨by simp only [PyData.canLay0]; exact a, by simp only [PyData.depth]; omega⟩
theorem dok_tup {n : Nat} {ds : List PyData} (h : ∀ d ∈ ds, DOk n d) : DOk (n + 1) (.tuple ds) := by
  obtain ⟨a, b⟩ := dok_all h
  exact ⟨by simp only [PyData.canLay0]; exact a, by simp only [PyData.depth]; omega⟩
theorem dpAll_map {K : PySem.W.Frag} {H : Hp} (f : V → PyData) : ∀ {zs : List V}, (∀ v ∈ zs, Dp K H v (f v)) → DpAll K H zs (zs.map f)
  | [], _ => .nil
  | z :: r, h => .cons (h z List.mem_cons_self) (dpAll_map f fun v m => h v (List.mem_cons_of_mem _ m))
theorem dpAll_ints {K : PySem.W.Frag} {H : Hp} : ∀ {ns : List Int}, DpAll K H (ns.map V.int) (ns.map PyData.int)
  | [] => .nil
  | n :: r => .cons (.int n) dpAll_ints
theorem dp_ints {K : PySem.W.Frag} {H : Hp} {a : Addr} {ns : List Int} (h : SqL K H a (ns.map V.int)) : Dp K H (.ref a) (.list (ns.map PyData.int)) := .lst h dpAll_ints
theorem dp_intsT {K : PySem.W.Frag} {H : Hp} {a : Addr} {ns : List Int} (h : SqT K H a (ns.map V.int)) : Dp K H (.ref a) (.tuple (ns.map PyData.int)) := .tup h dpAll_ints
theorem ints_dok (n : Nat) (ns : List Int) : DOk (n + 1) (.list (ns.map PyData.int)) := dok_list fun d m => by
  obtain ⟨i, _, rfl⟩ := List.mem_map.mp m
  exact dok_int
theorem ints_shaped (ns : List Int) : SeqAt.shaped (.list (ns.map PyData.int)) = true := (ints_dok 0 ns).shaped (by decide)
theorem eqvAll_ints : ∀ ns ms : List Int, PyData.eqvAll (ns.map PyData.int) (ms.map PyData.int) = decide (ns = ms)
  | [], [] => by simp [PyData.eqvAll]
  | [], b :: s => by simp [PyData.eqvAll]
  | a :: r, [] => by simp [PyData.eqvAll]
  | a :: r, b :: s => by
    rw [List.map_cons, List.map_cons, PyData.eqvAll, eqvAll_ints r s, PyData.eqv]
    by_cases h : a = b <;> by_cases h2 : r = s <;> simp [h, h2]
theorem eqv_ints (ns ms : List Int) : PyData.eqv (.list (ns.map PyData.int)) (.list (ms.map PyData.int)) = decide (ns = ms) := by
  rw [PyData.eqv, eqvAll_ints]
theorem eqv_intsT (ns ms : List Int) : PyData.eqv (.tuple (ns.map PyData.int)) (.tuple (ms.map PyData.int)) = decide (ns = ms) := by
  rw [PyData.eqv, eqvAll_ints]

/-! ### scopes, places -/
def cellD (q : Str × Int) : PyData := .tuple [.str q.1, .int q.2]
def portD (q : Str × Str) : PyData := .tuple [.str q.1, .str q.2]
def cellsD (cs : List (Str × Int)) : PyData := .list (cs.map cellD)
def kd (n : Int) : Int := if n = 0 then 0 else 1
theorem cells_at {K : PySem.W.Frag} {H : Hp} {xs : List V} {cs : List (Str × Int)} (d : DpAll K H xs (cs.map cellD)) {i : Nat} {x : V} (h : xs[i]? = some x) : ∃ c t, cs[i]? = some c ∧ x = .ref t ∧ SqT K H t [.str c.1, .int c.2] := by
  obtain ⟨d', h1, h2⟩ := dp_at' d h
  rw [List.getElem?_map] at h1
  cases e : cs[i]? with
  | none => rw [e] at h1; cases h1
  | some c =>
    rw [e] at h1
    cases h1
    obtain ⟨t, ys, rfl, h3, h4⟩ := dpT h2
    obtain ⟨v1, r1, rfl, a1, h5⟩ := dp1 h4
    obtain ⟨v2, r2, rfl, a2, h6⟩ := dp1 h5
    rw [dp0 h6, dpS a1, dpI a2] at h3
    exact ⟨c, t, rfl, rfl, h3⟩
def mCell (m : List (Str × Int)) (c : Str × Int) : Except Str (List (Str × Int)) := if 0 ≤ c.2 ∧ c.2 ≤ 64 then mWith c.1 (kd c.2) m else .error "size"
def mCells (cs : List (Str × Int)) (m : List (Str × Int)) : Except Str (List (Str × Int)) := cs.foldlM mCell m
theorem mCells_step {cs m m1 : List (Str × Int)} {i : Nat} {c : Str × Int} (h : mCells (cs.take i) m = .ok m1) (hc : cs[i]? = some c) : mCells (cs.take (i + 1)) m = mCell m1 c := by
  unfold mCells at h ⊢
  rw [List.take_add_one, hc, List.foldlM_append, h]
  show (mCell m1 c >>= fun b => pure b) = _
  cases mCell m1 c <;> rfl
theorem mCells_err {cs m m1 : List (Str × Int)} {i : Nat} {c : Str × Int} {r : Str} (h : mCells (cs.take i) m = .ok m1) (hc : cs[i]? = some c) (e : mCell m1 c = .error r) : mCells cs m = .error r := by
  have h2 := mCells_step h hc
  rw [e] at h2
  unfold mCells at h2 ⊢
  rw [← List.take_append_drop (i + 1) cs, List.foldlM_append, h2]
  rfl
theorem mWith_len {z : Str} {k : Int} {m m1 : List (Str × Int)} (h : mWith z k m = .ok m1) : m1.length = m.length + 1 := by
  unfold mWith at h
  split at h
  · cases h; simp
  · cases h
theorem mCells_len {cs : List (Str × Int)} : ∀ {i : Nat} {m m1 : List (Str × Int)}, mCells (cs.take i) m = .ok m1 → m1.length ≤ m.length + i
  | 0, m, m1, h => by
    have h : (Except.ok m : Except Str _) = .ok m1 := h
    cases h; omega
  | i + 1, m, m1, h => by
    cases hm : mCells (cs.take i) m with
    | ok m0 =>
      have ih := mCells_len hm
      cases hc : cs[i]? with
      | none =>
        rw [List.take_add_one, hc] at h
        have h : mCells (cs.take i ++ []) m = .ok m1 := h
        rw [List.append_nil, hm] at h
        cases h; omega
      | some c =>
        rw [mCells_step hm hc] at h
        unfold mCell at h
        split at h
        · have := mWith_len h; omega
        · cases h
    | error r =>
      cases hc : cs[i]? with
      | none =>
        rw [List.take_add_one, hc] at h
        have h : mCells (cs.take i ++ []) m = .ok m1 := h
        rw [List.append_nil, hm] at h
        cases h
      | some c =>
        unfold mCells at hm h
        rw [List.take_add_one, hc, List.foldlM_append, hm] at h
        cases h
section
variable {P : Program} {w : World} {K : PySem.W.Frag} {mg : Str → Option Value} {base : Heap}
def sp__with_cells (K : PySem.W.Frag) (C : Addr) : Sp := fun vs H Q E => ∃ (T_ : Addr) (v : V) (m cs : List (Str × Int)), vs = [.ref T_, v] ∧ H T_ = some (DSI m) ∧ Dp K H v (cellsD cs) ∧ (∀ c ∈ cs, c.1.length ≤ 10000) ∧ m.length + cs.length ≤ 500 ∧
  (∀ m', mCells cs m = .ok m' → ∀ (p : Addr) H', Same H H' → H' p = some (DSI m') → Q (.ref p) H') ∧ ∀ r, mCells cs m = .error r → RuleOut C r H E
theorem ok__with_cells (T : Top P K mg) : FnOk P w K mg base (L2.CX P w) 6 T.a__with_cells T.d__with_cells ["scope", "cells"]  (sp__with_cells K T.C_RuleError) := by
  refine T.F__with_cells.okX sc__with_cells (fun vs H Q E h => ?_) (fun cdv A outer s H vs Q E hr h => ?_)
  · obtain ⟨_, _, _, _, rfl, _⟩ := h
    rfl
  · obtain ⟨T_, v, m, cs, rfl, ht, hv, nl, few, q, qe⟩ := h
    obtain ⟨C, xs, rfl, hC, dxs⟩ := dpL hv
    have lxs : xs.length = cs.length := by rw [dps_len dxs, List.length_map]
    refine ⟨_, (pss_cons (ps_for (passes_of rfl) rfl (pi_list (pv 1)) (pg_tup rfl (pgs_cons (pg_name (i := 2) sc__with_cells.nd rfl (by first | exact Or.inl rfl | exact Or.inr rfl)) (pgs_cons (pg_name (i := 3) sc__with_cells.nd rfl (by first | exact Or.inl rfl | exact Or.inr rfl)) pgs_nil)))
  (pss_cons (ps_expr (pe_callS (ok__demand T) (hr.mono (by decide)) (by rfl) T.g__demand T.F__demand.kp T.b__demand (fun σ => passAt (takes_of rfl rfl rfl rfl) σ) (pa_cons (pe_chain op_le op_le pe_int (pv 3) (pe_gi (by rfl) T.c_MOST_CELLS)) (pa_cons pe_str pa_nil))))
  (pss_one (ps_set (i := 0) sc__with_cells.nd rfl (by first | exact Or.inl rfl | exact Or.inr rfl) (pe_callS (ok__with_name T) (hr.mono (by decide)) (by rfl) T.g__with_name T.F__with_name.kp T.b__with_name (fun σ => passAt (takes_of rfl rfl rfl rfl) σ) (pa_cons (pv 0) (pa_cons (pv 2) (pa_cons (pe_ifExp (pt_cmpR op_eq (pv 3) pe_int (nomark _)) (pe_gi (by rfl) T.c_SINGLE) (pe_gi (by rfl) T.c_ARRAY)) pa_nil))))))))
  (pss_one (ps_ret (pv 0)))), ?_⟩
    rw [show ∀ a0 a1 : V, L2.start ["scope", "cells", "name", "many"] [a0, a1] = [some a0, some a1, none, none] from fun _ _ => rfl]
    walk_at "my rn"
    refine for_it (walk_list (xs := xs)) (fun i σ H' => ∃ (T' : Addr) (m1 : List (Str × Int)) (y1 y2 : Option V), σ = [some (.ref T'), some (.ref C), y1, y2] ∧ Same H H' ∧ H' T' = some (DSI m1) ∧ mCells (cs.take i) m = .ok m1) ⟨T_, m, _, _, rfl, Same.refl _, ht, rfl⟩ (fun i σ H' _ h => ?_) ?_ ?_
    · obtain ⟨_, _, _, _, _, s, _⟩ := h
      exact s.seq hC
    · rintro i x σ Ho H' hi ⟨T', m1, y1, y2, rfl, s1, hT, em⟩ ⟨rfl, hx⟩
      obtain ⟨c, t, hc, rfl, hct⟩ := cells_at dxs hx
      have hct1 := s1.seqT hct
      have lm := mCells_len em
      have il : i < cs.length := (List.getElem?_eq_some_iff.mp hc).1
      have st := mCells_step em hc
      have er : ∀ r, mCell m1 c = .error r → RuleOut T.C_RuleError r H' E := fun r e => (qe r (mCells_err em hc e)).same s1
      walk_at "my rn"
      by_cases k0 : 0 ≤ c.2
      case neg =>
        have e : mCell m1 c = .error "size" := by unfold mCell; rw [if_neg (fun h => k0 h.1)]
        rw [decide_eq_false k0]
        refine Rd.ifF ?_
        walk_at "my rn"
        exact ⟨false, "size", rfl, by decide, fun e => (by cases e), fun _ => er _ e⟩
      rw [decide_eq_true k0]
      refine Rd.ifT ?_
      walk_at "my rn"
      by_cases k1 : c.2 ≤ 64
      case neg =>
        have e : mCell m1 c = .error "size" := by unfold mCell; rw [if_neg (fun h => k1 h.2)]
        rw [decide_eq_false k1]
        exact ⟨false, "size", rfl, by decide, fun e => (by cases e), fun _ => er _ e⟩
      rw [decide_eq_true k1]
      refine ⟨true, "size", rfl, by decide, fun _ => ?_, fun e => by cases e⟩
      have ec : mCell m1 c = mWith c.1 (kd c.2) m1 := by unfold mCell; rw [if_pos ⟨k0, k1⟩]
      rw [ec] at st er
      have lc := nl c (List.mem_of_getElem? hc)
      walk_at "my rn"
      refine Rd.ifD (fun e => ?_) fun e => ?_
      · have ek : kd c.2 = 0 := if_pos (V.int.inj e)
        rw [ek] at st er
        walk_at "my rn"
        refine ⟨T', c.1, 0, m1, rfl, lc, hT, by omega, fun m2 e2 p H2 np s2 hp => ?_, fun r e2 => er r e2⟩
        walk_at "my rn"
        exact ⟨_, m2, _, _, rfl, s1.trans s2, hp, st.trans e2⟩
      · have ek : kd c.2 = 1 := if_neg (fun z => e (by rw [z]))
        rw [ek] at st er
        walk_at "my rn"
        refine ⟨T', c.1, 1, m1, rfl, lc, hT, by omega, fun m2 e2 p H2 np s2 hp => ?_, fun r e2 => er r e2⟩
        walk_at "my rn"
        exact ⟨_, m2, _, _, rfl, s1.trans s2, hp, st.trans e2⟩
    · rintro σ H' ⟨T', m1, y1, y2, rfl, s1, hT, em⟩
      rw [lxs, List.take_of_length_le (Nat.le_refl _)] at em
      walk_at "my rn"
      exact q m1 em T' H' s1 hT
end


set_option Elab.async false
set_option linter.all false
set_option maxRecDepth 100000
set_option maxHeartbeats 1000000
--@@rec _check_statements _check_statement

--@@guards
/-! ### places, ports, calls -/
def mPlace (m : List (Str × Int)) : Option Pl → Option Str
  | none => none
  | some (.cell s) => if lkI m s = some 0 then none else some "cell"
  | some (.at s _) => if lkI m s = some 1 then none else some "cell"
structure OpT where
  name : Str
  pars : List Str
  locs : List (Str × Int)
  body : List Stm
  res : Option Ex
def OpT.d (o : OpT) : PyData := .tuple [.str "operation", .str o.name, .list (o.pars.map PyData.str), cellsD o.locs, .list (stmsD o.body), optD (o.res.map Ex.d)]
structure ObT where
  name : Str
  fields : List (Str × Int)
  ops : List OpT
def ObT.d (o : ObT) : PyData := .tuple [.str "object", .str o.name, cellsD o.fields, .list (o.ops.map OpT.d)]
theorem named_tup {α : Type} (f : α → List PyData) (nm : α → Str) (hf : ∀ a, ∃ x r, f a = x :: .str (nm a) :: r) {K : PySem.W.Frag} {H : Hp} {os : List α} {xs : List V} (h : DpAll K H xs (os.map fun a => .tuple (f a))) : NamedR K H xs (os.map nm) := by
  refine ⟨by rw [List.length_map, dps_len h, List.length_map], fun i v hv => ?_⟩
  obtain ⟨d, h1, h2⟩ := dp_at' h hv
  rw [List.getElem?_map] at h1
  cases e : os[i]? with
  | none => rw [e] at h1; cases h1
  | some o =>
    rw [e] at h1
    cases h1
    obtain ⟨x, r, ef⟩ := hf o
    have h2 : Dp K H v (.tuple (f o)) := h2
    rw [ef] at h2
    obtain ⟨t, ys, rfl, h3, h4⟩ := dpT h2
    obtain ⟨v1, r1, rfl, a1, h5⟩ := dp1 h4
    obtain ⟨v2, r2, rfl, a2, h6⟩ := dp1 h5
    exact ⟨t, _, nm o, rfl, h3, by rw [dpS a2]; rfl, by rw [List.getElem?_map, e]; rfl⟩
def mPort (ps : List (Str × Str)) (own : Int) (w_ nm : Str) : Option Str := if own = -1 ∧ (w_, nm) ∈ ps then none else some "port"
def mCall (obs : List ObT) (own : Int) (th op : Str) (n : Nat) : Option Str :=
  if own < findN (obs.map ObT.name) th then
    match obs[(findN (obs.map ObT.name) th).toNat]? with
    | none => some "call"
    | some ob => match ob.ops[(findN (ob.ops.map OpT.name) op).toNat]? with
      | none => some "call"
      | some o => if 0 ≤ findN (ob.ops.map OpT.name) op ∧ o.pars.length = n then none else some "call"
  else some "call"
section
variable {P : Program} {w : World} {K : PySem.W.Frag} {mg : Str → Option Value} {base : Heap}
def sp__check_place (K : PySem.W.Frag) (C : Addr) : Sp := fun vs H Q E => ∃ (v : V) (T_ : Addr) (m : List (Str × Int)) (p : Option Pl), vs = [v, .ref T_] ∧ H T_ = some (DSI m) ∧ Dp K H v (optD (p.map Pl.d)) ∧ (mPlace m p = none → Q .non H) ∧ ∀ z, mPlace m p = some z → RuleOut C z H E
theorem ok__check_place (T : Top P K mg) : FnOk P w K mg base (L2.CX P w) 4 T.a__check_place T.d__check_place ["place", "scope"]  (sp__check_place K T.C_RuleError) := by
  refine T.F__check_place.okX sc__check_place (fun vs H Q E h => ?_) (fun cdv A outer s H vs Q E hr h => ?_)
  · obtain ⟨_, _, _, _, rfl, _⟩ := h
    rfl
  · obtain ⟨v, T_, m, p, rfl, ht, hv, q, qe⟩ := h
    refine ⟨_, (pss_one (ps_if (pt_cmpR op_notN (pv 0) pe_non (nomark _))
  (pss_cons (ps_set (i := 2) sc__check_place.nd rfl (by first | exact Or.inl rfl | exact Or.inr rfl) (pe_ifExp (pt_cmpR op_eq (pe_ix ix_tup (pv 0) pe_int (fun _ _ => rfl)) pe_str (nomark _)) (pe_gi (by rfl) T.c_SINGLE) (pe_gi (by rfl) T.c_ARRAY)))
  (pss_one (ps_expr (pe_callS (ok__demand T) (hr.mono (by decide)) (by rfl) T.g__demand T.F__demand.kp T.b__demand (fun σ => passAt (takes_of rfl rfl rfl rfl) σ) (pa_cons (pe_cmpR op_eq (pe_dget1 (hu_of hr) (pv 1) (pe_ix ix_tup (pv 0) pe_int (fun _ _ => rfl)) ⟨by rfl, by rfl, by rfl, by rfl⟩) (pv 2) (nomark _)) (pa_cons pe_str pa_nil))))))
  pss_nil)), ?_⟩
    rw [show ∀ a0 a1 : V, L2.start ["place", "scope", "wanted"] [a0, a1] = [some a0, some a1, none] from fun _ _ => rfl]
    walk_at "my rn"
    have dem : ∀ (b : Bool) (k : Int) (s : Str) (Q' : VK) (E' : XK), (mPlace m p = (if lkI m s = some k then none else some ("cell" : Str) : Option Str)) → (b = true ↔ lkI m s = some k) → (mPlace m p = none → Q' .non H) → (∀ z, mPlace m p = some z → RuleOut T.C_RuleError z H E') → sp__demand T.C_RuleError [.bl b, .str "cell"] H Q' E' := fun b k s Q' E' em hb a1 a2 => by
      refine ⟨b, "cell", rfl, by decide, fun e => a1 (by rw [em, if_pos (hb.mp e)]), fun e => a2 _ (by rw [em, if_neg (fun z => by rw [hb.mpr z] at e; cases e)])⟩
    cases p with
    | none =>
      cases dpN hv
      refine Rd.ifN (fun h => absurd rfl h) fun _ => ?_
      walk_at "my rn"
      exact q rfl
    | some p =>
      cases p with
      | cell s =>
        obtain ⟨t, ys, rfl, h3, h4⟩ := dpT hv
        obtain ⟨v1, r1, rfl, a1, h5⟩ := dp1 h4
        obtain ⟨v2, r2, rfl, a2, h6⟩ := dp1 h5
        rw [dp0 h6, dpS a1, dpS a2] at h3
        refine Rd.ifN (fun _ => ?_) fun h => absurd h (by intro z; cases z)
        walk_at "my rn"
        rw [decide_eq_true rfl]
        refine Rd.ifT ?_
        walk_at "my rn"
        refine Rd.dget1S ht ?_
        rw [lks_i]
        cases e : lkI m s with
        | none =>
          walk_at "my rn"
          exact dem _ 0 s _ _ rfl (by rw [e]; simp) q qe
        | some n =>
          walk_at "my rn"
          exact dem _ 0 s _ _ rfl (by rw [e]; simp) q qe
      | «at» s i =>
        obtain ⟨t, ys, rfl, h3, h4⟩ := dpT hv
        obtain ⟨v1, r1, rfl, a1, h5⟩ := dp1 h4
        obtain ⟨v2, r2, rfl, a2, h6⟩ := dp1 h5
        obtain ⟨v3, r3, rfl, a3, h7⟩ := dp1 h6
        rw [dp0 h7, dpS a1, dpS a2] at h3
        refine Rd.ifN (fun _ => ?_) fun h => absurd h (by intro z; cases z)
        walk_at "my rn"
        rw [decide_eq_false (by decide +kernel)]
        refine Rd.ifF ?_
        walk_at "my rn"
        refine Rd.dget1S ht ?_
        rw [lks_i]
        cases e : lkI m s with
        | none =>
          walk_at "my rn"
          exact dem _ 1 s _ _ rfl (by rw [e]; simp) q qe
        | some n =>
          walk_at "my rn"
          exact dem _ 1 s _ _ rfl (by rw [e]; simp) q qe
def sp__check_port (K : PySem.W.Frag) (C : Addr) : Sp := fun vs H Q E => ∃ (pr po : Addr) (v0 v1 v2 : V) (rest : List V) (own : Int) (w_ nm : Str) (ps : List (Str × Str)), vs = [.ref pr, .int own, .ref po] ∧ SqT K H pr (v0 :: v1 :: v2 :: rest) ∧ Dp K H v2 (.list (ps.map portD)) ∧ H po = some (.tup [.str w_, .str nm]) ∧
  (∀ q ∈ ps, PyData.strOk q.1 = true ∧ PyData.strOk q.2 = true) ∧ PyData.strOk w_ = true ∧ PyData.strOk nm = true ∧ (mPort ps own w_ nm = none → Q .non H) ∧ ∀ z, mPort ps own w_ nm = some z → RuleOut C z H E
theorem eqv_port (a b : Str × Str) : PyData.eqv (portD a) (portD b) = decide (a = b) := by
  obtain ⟨a1, a2⟩ := a
  obtain ⟨b1, b2⟩ := b
  show PyData.eqv (.tuple [.str a1, .str a2]) (.tuple [.str b1, .str b2]) = _
  rw [PyData.eqv, PyData.eqvAll, PyData.eqvAll, PyData.eqvAll, PyData.eqv, PyData.eqv, Bool.and_true]
  by_cases h1 : a1 = b1
  · by_cases h2 : a2 = b2
    · subst h1; subst h2; simp
    · simp [h2]
  · simp [h1]
theorem ok__check_port (T : Top P K mg) : FnOk P w K mg base (L2.CX P w) 4 T.a__check_port T.d__check_port ["program", "own", "port"]  (sp__check_port K T.C_RuleError) := by
  refine T.F__check_port.okX sc__check_port (fun vs H Q E h => ?_) (fun cdv A outer s H vs Q E hr h => ?_)
  · obtain ⟨_, _, _, _, _, _, _, _, _, _, rfl, _⟩ := h
    rfl
  · obtain ⟨pr, po, v0, v1, v2, rest, own, w_, nm, ps, rfl, hpr, hv, hpo, ok, ok1, ok2, q, qe⟩ := h
    refine ⟨_, (pss_one (ps_expr (pe_callS (ok__demand T) (hr.mono (by decide)) (by rfl) T.g__demand T.F__demand.kp T.b__demand (fun σ => passAt (takes_of rfl rfl rfl rfl) σ) (pa_cons (pe_and (pe_cmpR op_eq (pv 1) (pe_gi (by rfl) T.c_NO_OBJECT) (nomark _)) (pe_one (pe_cmpR (op_inD (Rd.room65 hr)) (pv 2) (pe_ix ix_tup (pv 0) pe_int (fun _ _ => rfl)) (by with_unfolding_all rfl)))) (pa_cons pe_str pa_nil))))), ?_⟩
    rw [show ∀ a0 a1 a2 : V, L2.start ["program", "own", "port"] [a0, a1, a2] = [some a0, some a1, some a2] from fun _ _ _ => rfl]
    have dOk : ∀ u : Str × Str, PyData.strOk u.1 = true ∧ PyData.strOk u.2 = true → DOk 1 (portD u) := fun u h => dok_tup fun d m => by
      simp only [List.mem_cons, List.mem_nil_iff, or_false] at m
      rcases m with rfl | rfl
      · exact dok_str h.1
      · exact dok_str h.2
    walk_at "my rn"
    by_cases ho : own = -1
    case neg =>
      rw [decide_eq_false (fun z => ho (V.int.inj z))]
      refine Rd.ifF ?_
      walk_at "my rn"
      exact ⟨false, "port", rfl, by decide, fun e => (by cases e), fun _ => qe _ (if_neg fun h => ho h.1)⟩
    subst ho
    rw [decide_eq_true rfl]
    refine Rd.ifT ?_
    walk_at "my rn"
    refine Rd.ixTq hpr (Rd.at_val (j := 2) rfl rfl) ?_
    walk_at "my rn"
    refine ⟨portD (w_, nm), ps.map portD, .tup (SqT.of hpo) (.cons (.str _) (.cons (.str _) .nil)), hv, (dOk _ ⟨ok1, ok2⟩).shaped (by decide), (dok_list (n := 1) fun d md => by
      obtain ⟨u, mu, rfl⟩ := List.mem_map.mp md
      exact dOk u (ok u mu)).shaped (by decide), ?_⟩
    have ea : ((ps.map portD).any fun z => PyData.eqv z (portD (w_, nm))) = decide ((w_, nm) ∈ ps) := by
      rw [List.any_map]
      by_cases h : (w_, nm) ∈ ps
      · rw [decide_eq_true h, List.any_eq_true]
        exact ⟨_, h, by show PyData.eqv _ _ = true; rw [eqv_port]; exact decide_eq_true rfl⟩
      · rw [decide_eq_false h, List.any_eq_false]
        intro u mu z
        have z : PyData.eqv (portD u) (portD (w_, nm)) = true := z
        rw [eqv_port] at z
        exact h (of_decide_eq_true z ▸ mu)
    rw [ea]
    walk_at "my rn"
    refine ⟨_, "port", rfl, by decide, fun e => q (if_pos ⟨rfl, of_decide_eq_true e⟩), fun e => qe _ (if_neg fun h => of_decide_eq_false e h.2)⟩
theorem find_neg {ns : List Str} {x : Str} : -1 ≤ findN ns x ∧ findN ns x < ns.length ∨ findN ns x = -1 := by
  unfold findN
  by_cases h : x ∈ ns
  · rw [if_pos h]
    have := List.idxOf_lt_length_of_mem h
    exact .inl ⟨by omega, by omega⟩
  · rw [if_neg h]; exact .inr rfl
def sp__check_call (K : PySem.W.Frag) (C : Addr) : Sp := fun vs H Q E => ∃ (pr G : Addr) (v0 v1 v2 v3 : V) (rest gs : List V) (obs : List ObT) (own : Int) (th op : Str), vs = [.ref pr, .int own, .str th, .str op, .ref G] ∧ SqT K H pr (v0 :: v1 :: v2 :: v3 :: rest) ∧
  Dp K H v3 (.list (obs.map ObT.d)) ∧ SqL K H G gs ∧ obs.length < 1000 ∧ (∀ o ∈ obs, o.ops.length < 1000) ∧ -1 ≤ own ∧ Res C (mCall obs own th op gs.length) H Q E
theorem ok__check_call (T : Top P K mg) : FnOk P w K mg base (L2.CX P w) 4 T.a__check_call T.d__check_call ["program", "own", "thing", "operation", "given"]  (sp__check_call K T.C_RuleError) := by
  refine T.F__check_call.okX sc__check_call (fun vs H Q E h => ?_) (fun cdv A outer s H vs Q E hr h => ?_)
  · obtain ⟨_, _, _, _, _, _, _, _, _, _, _, _, rfl, _⟩ := h
    rfl
  · obtain ⟨pr, G, v0, v1, v2, v3, rest, gs, obs, own, th, op, rfl, hpr, hv, hG, lo, lop, ow, q, qe⟩ := h
    obtain ⟨O, os, rfl, hO, dos⟩ := dpL hv
    refine ⟨_, (pss_cons (ps_set (i := 5) sc__check_call.nd rfl (by first | exact Or.inl rfl | exact Or.inr rfl) (pe_ix ix_tup (pv 0) pe_int (fun _ _ => rfl)))
  (pss_cons (ps_set (i := 6) sc__check_call.nd rfl (by first | exact Or.inl rfl | exact Or.inr rfl) (pe_call (ok_find T) (hr.mono (by decide)) (by rfl) T.g_find T.F_find.kp T.b_find .nil pass0 (pa_cons (pv 5) (pa_cons (pv 2) pa_nil))))
  (pss_cons (ps_expr (pe_callS (ok__demand T) (hr.mono (by decide)) (by rfl) T.g__demand T.F__demand.kp T.b__demand (fun σ => passAt (takes_of rfl rfl rfl rfl) σ) (pa_cons (pe_cmpR op_gt (pv 6) (pv 1) (nomark _)) (pa_cons pe_str pa_nil))))
  (pss_cons (ps_set (i := 7) sc__check_call.nd rfl (by first | exact Or.inl rfl | exact Or.inr rfl) (pe_ix ix_tup (pe_ix ix_list (pv 5) (pv 6) (fun _ _ => rfl)) pe_int (fun _ _ => rfl)))
  (pss_cons (ps_set (i := 8) sc__check_call.nd rfl (by first | exact Or.inl rfl | exact Or.inr rfl) (pe_call (ok_find T) (hr.mono (by decide)) (by rfl) T.g_find T.F_find.kp T.b_find .nil pass0 (pa_cons (pv 7) (pa_cons (pv 3) pa_nil))))
  (pss_one (ps_expr (pe_callS (ok__demand T) (hr.mono (by decide)) (by rfl) T.g__demand T.F__demand.kp T.b__demand (fun σ => passAt (takes_of rfl rfl rfl rfl) σ) (pa_cons (pe_and (pe_cmpR op_ge (pv 8) pe_int (nomark _)) (pe_one (pe_cmpR op_eq (pe_callB call_len_seq (by rfl) T.m_len PySem.boot_len (pa_cons (pe_ix ix_tup (pe_ix ix_list (pv 7) (pv 8) (fun _ _ => rfl)) pe_int (fun _ _ => rfl)) pa_nil)) (pe_callB call_len_seq (by rfl) T.m_len PySem.boot_len (pa_cons (pv 4) pa_nil)) (nomark _)))) (pa_cons pe_str pa_nil)))))))))), ?_⟩
    have los : os.length = obs.length := by rw [dps_len dos, List.length_map]
    have nmO : NamedR K H os (obs.map ObT.name) := named_tup (fun o : ObT => [.str "object", .str o.name, cellsD o.fields, .list (o.ops.map OpT.d)]) ObT.name (fun o => ⟨_, _, rfl⟩) dos
    obtain ⟨at_, ea⟩ : ∃ a, a = findN (obs.map ObT.name) th := ⟨_, rfl⟩
    have fa := find_neg (ns := obs.map ObT.name) (x := th)
    rw [← ea, List.length_map] at fa
    unfold mCall at q qe
    rw [← ea] at q qe
    rw [show ∀ a0 a1 a2 a3 a4 : V, L2.start ["program", "own", "thing", "operation", "given", "objects", "at", "operations", "number"] [a0, a1, a2, a3, a4] = [some a0, some a1, some a2, some a3, some a4, none, none, none, none] from fun _ _ _ _ _ => rfl]
    walk_at "my rn"
    refine Rd.ixTq hpr (Rd.at_val (j := 3) rfl rfl) ?_
    walk_at "my rn"
    refine ⟨O, os, obs.map ObT.name, th, rfl, hO, nmO, by omega, fun H1 s1 => ?_⟩
    rw [← ea]
    walk_at "my rn"
    by_cases hlt : own < at_
    case neg =>
      rw [decide_eq_false hlt]
      rw [if_neg hlt] at qe
      exact ⟨false, "call", rfl, by decide, fun e => (by cases e), fun _ => (qe _ rfl).same s1⟩
    rw [decide_eq_true hlt]
    rw [if_pos hlt] at q qe
    refine ⟨true, "call", rfl, by decide, fun _ => ?_, fun e => by cases e⟩
    obtain ⟨i, rfl⟩ : ∃ i : Nat, at_ = (i : Int) := ⟨at_.toNat, by omega⟩
    obtain ⟨ob, hob⟩ : ∃ ob, obs[i]? = some ob := ⟨_, List.getElem?_eq_getElem (by omega)⟩
    rw [Int.toNat_natCast, hob] at q qe
    obtain ⟨vo, hvo, dvo⟩ := dp_at dos (i := i) (d := ob.d) (by rw [List.getElem?_map, hob]; rfl)
    obtain ⟨to, ys, rfl, hto, dys⟩ := dpT dvo
    obtain ⟨u1, r1, rfl, a1, h1⟩ := dp1 dys
    obtain ⟨u2, r2, rfl, a2, h2⟩ := dp1 h1
    obtain ⟨u3, r3, rfl, a3, h3⟩ := dp1 h2
    obtain ⟨u4, r4, rfl, a4, h4⟩ := dp1 h3
    obtain ⟨OP, ps_, rfl, hOP, dops⟩ := dpL a4
    have lps : ps_.length = ob.ops.length := by rw [dps_len dops, List.length_map]
    have lob := lop ob (List.mem_of_getElem? hob)
    have nmP : NamedR K H1 ps_ (ob.ops.map OpT.name) := named_tup (fun o : OpT => [.str "operation", .str o.name, .list (o.pars.map PyData.str), cellsD o.locs, .list (stmsD o.body), optD (o.res.map Ex.d)]) OpT.name (fun o => ⟨_, _, rfl⟩) (dps_same s1 dops)
    obtain ⟨nb, en⟩ : ∃ a, a = findN (ob.ops.map OpT.name) op := ⟨_, rfl⟩
    have fb := find_neg (ns := ob.ops.map OpT.name) (x := op)
    rw [← en, List.length_map] at fb
    dsimp only at q qe
    rw [← en] at q qe
    walk_at "my rn"
    refine Rd.ixLq (s1.seq hO) (Rd.at_val rfl hvo) ?_
    walk_at "my rn"
    refine Rd.ixTq (s1.seqT hto) (Rd.at_val (j := 3) rfl rfl) ?_
    walk_at "my rn"
    refine ⟨OP, ps_, ob.ops.map OpT.name, op, rfl, s1.seq hOP, nmP, by omega, fun H2 s2 => ?_⟩
    rw [← en]
    have S2 := s1.trans s2
    walk_at "my rn"
    by_cases hn : 0 ≤ nb
    case neg =>
      have e1 : nb = -1 := by omega
      rw [decide_eq_false hn]
      refine Rd.ifF ?_
      walk_at "my rn"
      refine ⟨false, "call", rfl, by decide, fun e => (by cases e), fun _ => (qe _ ?_).same S2⟩
      split
      · rfl
      · exact if_neg fun h => hn h.1
    rw [decide_eq_true hn]
    refine Rd.ifT ?_
    obtain ⟨k, rfl⟩ : ∃ i : Nat, nb = (i : Int) := ⟨nb.toNat, by omega⟩
    obtain ⟨o, ho⟩ : ∃ o, ob.ops[k]? = some o := ⟨_, List.getElem?_eq_getElem (by omega)⟩
    rw [Int.toNat_natCast, ho] at q qe
    dsimp only at q qe
    obtain ⟨vp, hvp, dvp⟩ := dp_at dops (i := k) (d := o.d) (by rw [List.getElem?_map, ho]; rfl)
    obtain ⟨tp, zs, rfl, htp, dzs⟩ := dpT dvp
    obtain ⟨u1, r1, rfl, b1, h1⟩ := dp1 dzs
    obtain ⟨u2, r2, rfl, b2, h2⟩ := dp1 h1
    obtain ⟨u3, r3, rfl, b3, h3⟩ := dp1 h2
    obtain ⟨L, ls, rfl, hL, dls⟩ := dpL b3
    have lls : ls.length = o.pars.length := by rw [dps_len dls, List.length_map]
    walk_at "my rn"
    refine Rd.ixLq (S2.seq hOP) (Rd.at_val rfl hvp) ?_
    walk_at "my rn"
    refine Rd.ixTq (S2.seqT htp) (Rd.at_val (j := 2) rfl rfl) ?_
    walk_at "my rn"
    refine Rd.lenLq (S2.seq hL) ?_
    walk_at "my rn"
    refine Rd.lenLq (S2.seq hG) ?_
    walk_at "my rn"
    by_cases hl : o.pars.length = gs.length
    · rw [decide_eq_true (by rw [lls, hl])]
      walk_at "my rn"
      exact ⟨true, "call", rfl, by decide, fun _ => q (if_pos ⟨hn, hl⟩) _ S2, fun e => by cases e⟩
    · rw [decide_eq_false (fun z => hl (by have := V.int.inj z; omega))]
      walk_at "my rn"
      exact ⟨false, "call", rfl, by decide, fun e => (by cases e), fun _ => (qe _ (if_neg fun h => hl h.2)).same S2⟩
end


set_option Elab.async false
set_option linter.all false
set_option maxRecDepth 100000
set_option maxHeartbeats 1000000
--@@rec _check_statements _check_statement

--@@guards
/-! ### the parts of an expression -/
def Ex.ops : Ex → List Ex
  | num _ => []
  | cell _ => []
  | «at» _ i => [i]
  | un _ a => [a]
  | bin _ a b => [a, b]
def Ex.post : Ex → List Ex
  | num n => [num n]
  | cell s => [cell s]
  | «at» s i => i.post ++ [«at» s i]
  | un k a => a.post ++ [un k a]
  | bin k a b => a.post ++ b.post ++ [bin k a b]
def posts (l : List Ex) : List Ex := l.flatMap Ex.post
theorem post_ops (e : Ex) : e.post = posts e.ops ++ [e] := by
  cases e <;> simp [Ex.post, Ex.ops, posts]
theorem post_len : ∀ (e : Ex) (k : Nat), e.depth ≤ k → e.post.length < 2 ^ k := by
  intro e
  induction e with
  | num n => intro k h; exact Nat.one_lt_two_pow (by have : 1 ≤ k := h; omega)
  | cell n => intro k h; exact Nat.one_lt_two_pow (by have : 1 ≤ k := h; omega)
  | «at» s i ih =>
    intro k h
    have h : 1 + i.depth ≤ k := h
    obtain ⟨k, rfl⟩ : ∃ j, k = j + 1 := ⟨k - 1, by omega⟩
    have := ih k (by omega)
    show (i.post ++ [_]).length < _
    rw [List.length_append, Nat.pow_succ]
    show i.post.length + 1 < _
    omega
  | un s i ih =>
    intro k h
    have h : 1 + i.depth ≤ k := h
    obtain ⟨k, rfl⟩ : ∃ j, k = j + 1 := ⟨k - 1, by omega⟩
    have := ih k (by omega)
    show (i.post ++ [_]).length < _
    rw [List.length_append, Nat.pow_succ]
    show i.post.length + 1 < _
    omega
  | bin s a b iha ihb =>
    intro k h
    have h : 1 + max a.depth b.depth ≤ k := h
    obtain ⟨k, rfl⟩ : ∃ j, k = j + 1 := ⟨k - 1, by omega⟩
    have h1 := iha k (by omega)
    have h2 := ihb k (by omega)
    show (a.post ++ b.post ++ [_]).length < _
    rw [List.length_append, List.length_append, Nat.pow_succ]
    show a.post.length + b.post.length + 1 < _
    omega
theorem posts_pos (l : List Ex) : l.length ≤ (posts l).length := by
  induction l with
  | nil => exact Nat.zero_le _
  | cons a r ih =>
    have e : posts (a :: r) = a.post ++ posts r := rfl
    rw [e, List.length_append, post_ops, List.length_append]
    show r.length + 1 ≤ _ + 1 + _
    omega
/-- the sign of a node is none of the three kinds -/
theorem un_kind {k : Str} (h : k ∈ UNS ∨ k ∈ BINS) : k ≠ "num" ∧ k ≠ "cell" ∧ k ≠ "at" := by
  have : ∀ k ∈ UNS ++ BINS, k ≠ "num" ∧ k ≠ "cell" ∧ k ≠ "at" := by decide +kernel
  exact this k (List.mem_append.mpr h)
theorem exw_ops {g : Env} {e : Ex} (h : ExW g e) : ∀ f ∈ e.ops, ExW g f := by
  cases e with
  | num n => intro f m; cases m
  | cell n => intro f m; cases m
  | «at» s i => intro f m; rw [List.mem_singleton.mp m]; exact h.2
  | un s i => intro f m; rw [List.mem_singleton.mp m]; exact h.2
  | bin s a b =>
    intro f m
    simp only [Ex.ops, List.mem_cons, List.mem_nil_iff, or_false] at m
    rcases m with rfl | rfl
    · exact h.2.1
    · exact h.2.2
theorem last_at' {α : Type} (xs : List α) (x : α) : (xs ++ [x])[(xs ++ [x]).length - 1]? = some x := by simp
theorem dps_rev {K : PySem.W.Frag} {H : Hp} {vs : List V} {ds : List PyData} (h : DpAll K H vs ds) : DpAll K H vs.reverse ds.reverse := by
  have l := dps_len h
  refine dps_of (by rw [List.length_reverse, List.length_reverse, l]) fun i v d h1 h2 => ?_
  have hi := (List.getElem?_eq_some_iff.mp h1).1
  rw [List.length_reverse] at hi
  rw [List.getElem?_reverse hi] at h1
  rw [List.getElem?_reverse (by omega), ← l] at h2
  obtain ⟨v', e1, e2⟩ := dp_at h h2
  rw [h1] at e1
  cases e1
  exact e2
theorem dps_snoc' {K : PySem.W.Frag} {H : Hp} {d : PyData} : ∀ {ds : List PyData} {vs : List V}, DpAll K H vs (ds ++ [d]) → ∃ ws w, vs = ws ++ [w] ∧ DpAll K H ws ds ∧ Dp K H w d
  | [], vs, h => by
    obtain ⟨v, r, rfl, h1, h2⟩ := dp1 h
    cases dp0 h2
    exact ⟨[], v, rfl, .nil, h1⟩
  | a :: r, vs, h => by
    obtain ⟨v, s, rfl, h1, h2⟩ := dp1 h
    obtain ⟨ws, w, rfl, h3, h4⟩ := dps_snoc' h2
    exact ⟨v :: ws, w, rfl, .cons h1 h3, h4⟩
section
variable {P : Program} {w : World} {K : PySem.W.Frag} {mg : Str → Option Value} {base : Heap}
def sp__operands (K : PySem.W.Frag) : Sp := fun vs H Q _ => ∃ (g : Env) (v : V) (x : Ex) (H0 : Hp), vs = [v] ∧ Same H0 H ∧ Dp K H0 v x.d ∧ ExW g x ∧
  ∀ (L : Addr) (ws : List V) (H' : Hp), Same H H' → H L = none → H' L = some (.lst ws) → DpAll K H0 ws (x.ops.map Ex.d) → Q (.ref L) H'
theorem ok__operands (T : Top P K mg) : FnOk P w K mg base CX0 1 T.a__operands T.d__operands ["e"]  (sp__operands K) := by
  refine T.F__operands.ok sc__operands (fun vs H Q E h => ?_) (fun cdv A outer s H vs Q E hr h => ?_)
  · obtain ⟨_, _, _, _, rfl, _⟩ := h
    rfl
  · obtain ⟨g, v, x, H0, rfl, s0, dv, ew, q⟩ := h
    refine ⟨_, (pss_cons (ps_set (i := 1) sc__operands.nd rfl (by first | exact Or.inl rfl | exact Or.inr rfl) (pe_ix ix_tup (pv 0) pe_int (fun _ _ => rfl)))
  (pss_cons (ps_if (pw_or (pt_cmpR op_eq (pv 1) pe_str (nomark _)) (pw_or1 (pt_cmpR op_eq (pv 1) pe_str (nomark _)))).pt
  (pss_one (ps_ret (pe_lst pa_nil)))
  pss_nil)
  (pss_cons (ps_if (pt_cmpR op_eq (pv 1) pe_str (nomark _))
  (pss_one (ps_ret (pe_lst (pa_cons (pe_ix ix_tup (pv 0) pe_int (fun _ _ => rfl)) pa_nil))))
  pss_nil)
  (pss_one (ps_ret (pe_callTy call_list_of (by rfl) T.m_list (by decide +kernel) (pa_cons (pe_slice sl_tup (pv 0) (po_some pe_int) po_none) pa_nil))))))), ?_⟩
    rw [show ∀ a0 : V, L2.start ["e", "kind"] [a0] = [some a0, none] from fun _ => rfl]
    cases x with
    | num n =>
      obtain ⟨t, xs, rfl, hx, ha⟩ := dpT dv
      obtain ⟨v0, x0, rfl, d0, ha⟩ := dp1 ha
      obtain ⟨v1, x0, rfl, d1, ha⟩ := dp1 ha
      cases dp0 ha; cases dpS d0
      have hx' := Same.seqT s0 hx
      walk_at "my rn"
      refine Rd.ifD (fun _ => ?_) fun z => absurd rfl z
      rw [if_pos rfl]
      walk_at "my rn"
      intro L H1 nL s1 hL
      exact q L _ H1 s1 nL hL .nil
    | cell s =>
      obtain ⟨t, xs, rfl, hx, ha⟩ := dpT dv
      obtain ⟨v0, x0, rfl, d0, ha⟩ := dp1 ha
      obtain ⟨v1, x0, rfl, d1, ha⟩ := dp1 ha
      cases dp0 ha; cases dpS d0
      have hx' := Same.seqT s0 hx
      walk_at "my rn"
      refine Rd.ifD (fun z => absurd (V.str.inj z) (by decide +kernel)) fun _ => ?_
      walk_at "my rn"
      refine Rd.ifD (fun _ => ?_) fun z => absurd rfl z
      walk_at "my rn"
      intro L H1 nL s1 hL
      exact q L _ H1 s1 nL hL .nil
    | «at» s i =>
      obtain ⟨t, xs, rfl, hx, ha⟩ := dpT dv
      obtain ⟨v0, x0, rfl, d0, ha⟩ := dp1 ha
      obtain ⟨v1, x0, rfl, d1, ha⟩ := dp1 ha
      obtain ⟨v2, x0, rfl, d2, ha⟩ := dp1 ha
      cases dp0 ha; cases dpS d0
      have hx' := Same.seqT s0 hx
      walk_at "my rn"
      refine Rd.ifD (fun z => absurd (V.str.inj z) (by decide +kernel)) fun _ => ?_
      walk_at "my rn"
      refine Rd.ifD (fun z => absurd (V.str.inj z) (by decide +kernel)) fun _ => ?_
      walk_at "my rn"
      refine Rd.ifD (fun _ => ?_) fun z => absurd rfl z
      walk_at "my rn"
      intro L H1 nL s1 hL
      exact q L _ H1 s1 nL hL (.cons d2 .nil)
    | un k a =>
      obtain ⟨n1, n2, n3⟩ := un_kind (.inl ew.1)
      obtain ⟨t, xs, rfl, hx, ha⟩ := dpT dv
      obtain ⟨v0, x0, rfl, d0, ha⟩ := dp1 ha
      obtain ⟨v1, x0, rfl, d1, ha⟩ := dp1 ha
      cases dp0 ha; cases dpS d0
      have hx' := Same.seqT s0 hx
      walk_at "my rn"
      refine Rd.ifD (fun z => absurd (V.str.inj z) n1) fun _ => ?_
      walk_at "my rn"
      refine Rd.ifD (fun z => absurd (V.str.inj z) n2) fun _ => ?_
      walk_at "my rn"
      refine Rd.ifD (fun z => absurd (V.str.inj z) n3) fun _ => ?_
      walk_at "my rn"
      refine ⟨t, _, rfl, hx', fun z => absurd z.1 (by show ¬ HT.sIx 2 0 (some 1) = 0; decide), fun p np => ?_⟩
      have s1 := same_new (o := .tup (cutV [.str k, v1] (some 1) none)) np
      walk_at "my rn"
      refine ⟨p, _, rfl, .inr (SqT.of upd_same), fun L nL => ?_⟩
      exact q L _ _ (s1.trans (same_new nL)) (s1.free nL) upd_same (.cons d1 .nil)
    | bin k a b =>
      obtain ⟨n1, n2, n3⟩ := un_kind (.inr ew.1)
      obtain ⟨t, xs, rfl, hx, ha⟩ := dpT dv
      obtain ⟨v0, x0, rfl, d0, ha⟩ := dp1 ha
      obtain ⟨v1, x0, rfl, d1, ha⟩ := dp1 ha
      obtain ⟨v2, x0, rfl, d2, ha⟩ := dp1 ha
      cases dp0 ha; cases dpS d0
      have hx' := Same.seqT s0 hx
      walk_at "my rn"
      refine Rd.ifD (fun z => absurd (V.str.inj z) n1) fun _ => ?_
      walk_at "my rn"
      refine Rd.ifD (fun z => absurd (V.str.inj z) n2) fun _ => ?_
      walk_at "my rn"
      refine Rd.ifD (fun z => absurd (V.str.inj z) n3) fun _ => ?_
      walk_at "my rn"
      refine ⟨t, _, rfl, hx', fun z => absurd z.1 (by show ¬ HT.sIx 3 0 (some 1) = 0; decide), fun p np => ?_⟩
      have s1 := same_new (o := .tup (cutV [.str k, v1, v2] (some 1) none)) np
      walk_at "my rn"
      refine ⟨p, _, rfl, .inr (SqT.of upd_same), fun L nL => ?_⟩
      exact q L _ _ (s1.trans (same_new nL)) (s1.free nL) upd_same (.cons d1 (.cons d2 .nil))
def sp_parts (K : PySem.W.Frag) : Sp := fun vs H Q _ => ∃ (g : Env) (v : V) (x : Ex) (H0 : Hp), vs = [v] ∧ Same H0 H ∧ Dp K H0 v x.d ∧ ExW g x ∧ x.depth ≤ 8 ∧
  ∀ (L : Addr) (ws : List V) (H' : Hp), Same H H' → H L = none → H' L = some (.lst ws) → DpAll K H0 ws (x.post.map Ex.d) → Q (.ref L) H'
theorem ok_parts (T : Top P K mg) : FnOk P w K mg base CX0 2 T.a_parts T.d_parts ["e"]  (sp_parts K) := by
  refine T.F_parts.ok sc_parts (fun vs H Q E h => ?_) (fun cdv A outer s H vs Q E hr h => ?_)
  · obtain ⟨_, _, _, _, rfl, _⟩ := h
    rfl
  · obtain ⟨g, v, x, H0, rfl, s0, dv, ew, dx, q⟩ := h
    refine ⟨_, (pss_cons (ps_set (i := 1) sc_parts.nd rfl (by first | exact Or.inl rfl | exact Or.inr rfl) (pe_lst pa_nil))
  (pss_cons (ps_set (i := 2) sc_parts.nd rfl (by first | exact Or.inl rfl | exact Or.inr rfl) (pe_lst (pa_cons (pv 0) pa_nil)))
  (pss_cons (ps_while PassesOwn.never (pt_truth (pv 2) (by intro _; rfl))
  (pss_cons (ps_set (i := 3) sc_parts.nd rfl (by first | exact Or.inl rfl | exact Or.inr rfl) (pe_bm0 PySem.F.plainAttrs_list PySem.F.slot_list_pop PySem.F.type_list_pop mt_pop (pv 2)))
  (pss_cons (ps_expr (pe_bm PySem.F.plainAttrs_list PySem.F.slot_list_append PySem.F.type_list_append mt_append (pv 1) (pa_cons (pv 3) pa_nil)))
  (pss_one (ps_expr (pe_bm PySem.F.plainAttrs_list PySem.F.slot_list_extend PySem.F.type_list_extend mt_extend (pv 2) (pa_cons (pe_call (ok__operands T) (hr.mono (by decide)) (by rfl) T.g__operands T.F__operands.kp T.b__operands .nil pass0 (pa_cons (pv 3) pa_nil)) pa_nil)))))))
  (pss_one (ps_ret (pe_revL (pv 1))))))), ?_⟩
    rw [show ∀ a0 : V, L2.start ["e", "found", "waiting", "part"] [a0] = [some a0, none, none, none] from fun _ => rfl]
    walk_at "my rn"
    intro F H1 nF s1 hF
    walk_at "my rn"
    intro W H2 nW s2 hW
    walk_at "my rn"
    refine ⟨fun m σ H' => ∃ (fs ws : List V) (fd wd : List Ex) (y3 : Option V), m = (posts wd).length ∧ σ = [some v, some (.ref F), some (.ref W), y3] ∧ Same H H' ∧ H' F = some (.lst fs) ∧ H' W = some (.lst ws) ∧
      DpAll K H0 fs (fd.map Ex.d) ∧ DpAll K H0 ws (wd.map Ex.d) ∧ (∀ e ∈ wd, ExW g e) ∧ posts wd ++ fd.reverse = x.post, ⟨_, [], [v], [], [x], none, rfl, rfl, s1.trans s2, s2 _ _ hF, hW, .nil, .cons dv .nil, fun e m => by rw [List.mem_singleton.mp m]; exact ew, by simp [posts]⟩, ?_⟩
    rintro m σ H' ⟨fs, ws, fd, wd, y3, rfl, rfl, s4, hF4, hW4, a1, a2, gw, ee⟩
    have FW : F ≠ W := fun z => by rw [← z, hF] at nW; cases nW
    have nWH : H W = none := s1.free nW
    have lw : ws.length = wd.length := by rw [dps_len a2, List.length_map]
    have lf : fs.length = fd.length := by rw [dps_len a1, List.length_map]
    have tot := congrArg List.length ee
    rw [List.length_append, List.length_reverse] at tot
    have lx := post_len x 8 dx
    have lx2 : (2 : Nat) ^ 8 = 256 := rfl
    have lwd := posts_pos wd
    walk_at "my rn"
    rcases List.eq_nil_or_concat wd with rfl | ⟨wd0, e, rfl⟩
    · have e0 : ws = [] := List.eq_nil_of_length_eq_zero lw
      subst e0
      refine ⟨false, .inl ⟨[], SqL.of hW4, rfl⟩, Rd.ifF ?_⟩
      walk_at "my rn"
      intro L H5 nL s5 hL
      refine q L _ H5 (s4.trans s5) (s4.free nL) hL ?_
      rw [show posts [] = [] from rfl, List.nil_append] at ee
      rw [← ee, List.map_reverse]
      exact dps_rev a1
    · obtain ⟨ws0, we, rfl, a2, de⟩ := dps_snoc' (by rw [List.concat_eq_append, List.map_append] at a2; exact a2)
      have ec : wd0.concat e = wd0 ++ [e] := List.concat_eq_append
      rw [ec] at gw ee tot lwd lw ⊢
      have epost : posts (wd0 ++ [e]) = posts wd0 ++ (posts e.ops ++ [e]) := by
        unfold posts
        rw [List.flatMap_append]
        show _ ++ (e.post ++ []) = _
        rw [List.append_nil, post_ops]; rfl
      have eops : posts (wd0 ++ e.ops) = posts wd0 ++ posts e.ops := List.flatMap_append
      have l1 := congrArg List.length epost
      have l2 := congrArg List.length eops
      simp only [List.length_append, List.length_cons, List.length_nil] at l1 l2 lw lwd tot
      have l3 := posts_pos e.ops
      refine ⟨true, .inl ⟨_, SqL.of hW4, by simp⟩, Rd.ifT ⟨fun σ' H' => ∃ (fs ws : List V) (fd wd : List Ex) (y3 : Option V), (posts wd).length < (posts (wd0 ++ [e])).length ∧ σ' = [some v, some (.ref F), some (.ref W), y3] ∧ Same H H' ∧ H' F = some (.lst fs) ∧ H' W = some (.lst ws) ∧
        DpAll K H0 fs (fd.map Ex.d) ∧ DpAll K H0 ws (wd.map Ex.d) ∧ (∀ e ∈ wd, ExW g e) ∧ posts wd ++ fd.reverse = x.post, fun σ' H' ⟨fs, ws, fd, wd, y3, a, b⟩ => ⟨_, a, fs, ws, fd, wd, y3, rfl, b⟩, ?_⟩⟩
      walk_at "my rn"
      refine Rd.popI hW4 (last_at' _ _) ?_
      rw [List.dropLast_concat]
      obtain ⟨H5, e5⟩ : ∃ H5, H5 = upd H' W (.lst ws0) := ⟨_, rfl⟩
      have hW5 : H5 W = some (.lst ws0) := by rw [e5]; exact upd_same
      have hF5 : H5 F = some (.lst fs) := by rw [e5, upd_ne FW]; exact hF4
      have s5 : Same H H5 := fun a o z => by rw [e5, upd_ne (fun y => by rw [y, nWH] at z; cases z)]; exact s4 a o z
      rw [← e5]
      walk_at "my rn"
      refine Rd.app hF5 (Rd.szl (by omega)) ?_
      obtain ⟨H6, e6⟩ : ∃ H6, H6 = upd H5 F (.lst (fs ++ [we])) := ⟨_, rfl⟩
      have hF6 : H6 F = some (.lst (fs ++ [we])) := by rw [e6]; exact upd_same
      have hW6 : H6 W = some (.lst ws0) := by rw [e6, upd_ne FW.symm]; exact hW5
      have s6 : Same H H6 := fun a o z => by rw [e6, upd_ne (fun y => by rw [y, nF] at z; cases z)]; exact s5 a o z
      rw [← e6]
      have gwe := gw e (by simp)
      walk_at "my rn"
      refine ⟨g, we, e, H0, rfl, s0.trans s6, de, gwe, fun L7 ks H7 s7 nL7 hL7 ak => ?_⟩
      have lk : ks.length = e.ops.length := by rw [dps_len ak, List.length_map]
      walk_at "my rn"
      refine Rd.ext (s7 _ _ hW6) hL7 (by omega) ?_
      have s7' := s6.trans s7
      refine ⟨fs ++ [we], ws0 ++ ks, fd ++ [e], wd0 ++ e.ops, _, by omega, rfl, fun a o z => by rw [upd_ne (fun y => by rw [y, nWH] at z; cases z)]; exact s7' a o z, by rw [upd_ne FW]; exact s7 _ _ hF6, upd_same, ?_, ?_, fun f mf => ?_, ?_⟩
      · rw [List.map_append]; exact dps_app a1 (.cons de .nil)
      · rw [List.map_append]; exact dps_app a2 ak
      · rcases List.mem_append.mp mf with mf | mf
        · exact gw f (List.mem_append.mpr (.inl mf))
        · exact exw_ops gwe f mf
      · rw [eops, List.reverse_append, ← ee, epost]
        simp
end

/-! ### depth and parts, what is asked of an expression -/
structure NodeAt (K : PySem.W.Frag) (H0 H : Hp) (v : V) (p : Ex × Nat) : Prop where
  ex : ∃ (t : Addr) (nv : V), v = .ref t ∧ SqT K H t [nv, .int (p.2 : Int)] ∧ Dp K H0 nv p.1.d
def Nodes (K : PySem.W.Frag) (H0 H : Hp) (ws : List V) (ps : List (Ex × Nat)) : Prop := ws.length = ps.length ∧ ∀ (i : Nat) v p, ws[i]? = some v → ps[i]? = some p → NodeAt K H0 H v p
def topD (ps : List (Ex × Nat)) : Nat := ps.foldr (fun p m => max (p.2 + p.1.depth - 1) m) 0
theorem topD_app (a b : List (Ex × Nat)) : topD (a ++ b) = max (topD a) (topD b) := by
  induction a with
  | nil => simp [topD]
  | cons x r ih =>
    show max _ (topD (r ++ b)) = max (max _ (topD r)) (topD b)
    rw [ih]; omega
theorem topD_ops (e : Ex) (lv : Nat) (h : 1 ≤ lv) : max lv (topD (e.ops.map fun o => (o, lv + 1))) = lv + e.depth - 1 := by
  cases e with
  | num n => show max lv 0 = lv + 1 - 1; omega
  | cell n => show max lv 0 = lv + 1 - 1; omega
  | «at» s i => show max lv (max (lv + 1 + i.depth - 1) 0) = lv + (1 + i.depth) - 1; omega
  | un s i => show max lv (max (lv + 1 + i.depth - 1) 0) = lv + (1 + i.depth) - 1; omega
  | bin s a b => show max lv (max (lv + 1 + a.depth - 1) (max (lv + 1 + b.depth - 1) 0)) = lv + (1 + max a.depth b.depth) - 1; omega
theorem Nodes.keep {K : PySem.W.Frag} {H0 H H' : Hp} {ws : List V} {ps : List (Ex × Nat)} {W : Addr} {xs : List V} (n : Nodes K H0 H ws ps) (hW : H W = some (.lst xs)) (k : ∀ b y, b ≠ W → H b = some y → H' b = some y) : Nodes K H0 H' ws ps := by
  refine ⟨n.1, fun i v p h1 h2 => ?_⟩
  obtain ⟨t, nv, e, h, d⟩ := (n.2 i v p h1 h2).ex
  refine ⟨t, nv, e, ?_, d⟩
  rcases h with h | h
  · rcases h with h | ⟨o, h⟩
    · exact .inl (.inl (k _ _ (fun z => by rw [z, hW] at h; cases h) h))
    · exact .inl (.inr ⟨o, k _ _ (fun z => by rw [z, hW] at h; cases h) h⟩)
  · exact .inr h
theorem Nodes.same {K : PySem.W.Frag} {H0 H H' : Hp} {ws : List V} {ps : List (Ex × Nat)} (n : Nodes K H0 H ws ps) (s : Same H H') : Nodes K H0 H' ws ps := by
  refine ⟨n.1, fun i v p h1 h2 => ?_⟩
  obtain ⟨t, nv, e, h, d⟩ := (n.2 i v p h1 h2).ex
  exact ⟨t, nv, e, s.seqT h, d⟩
theorem Nodes.snoc {K : PySem.W.Frag} {H0 H : Hp} {ws : List V} {ps : List (Ex × Nat)} {v : V} {p : Ex × Nat} (n : Nodes K H0 H ws ps) (h : NodeAt K H0 H v p) : Nodes K H0 H (ws ++ [v]) (ps ++ [p]) := by
  refine ⟨by simp [n.1], fun i u q h1 h2 => ?_⟩
  by_cases hi : i < ws.length
  · rw [List.getElem?_append_left hi] at h1
    rw [List.getElem?_append_left (by rw [← n.1]; exact hi)] at h2
    exact n.2 i u q h1 h2
  · have li := (List.getElem?_eq_some_iff.mp h1).1
    rw [List.length_append] at li
    have ei : i = ws.length := by simp at li; omega
    subst ei
    rw [List.getElem?_append_right (Nat.le_refl _), Nat.sub_self] at h1
    rw [n.1, List.getElem?_append_right (Nat.le_refl _), Nat.sub_self] at h2
    cases h1
    cases h2
    exact h
theorem Nodes.pop {K : PySem.W.Frag} {H0 H : Hp} {ws : List V} {ps : List (Ex × Nat)} {p : Ex × Nat} (n : Nodes K H0 H ws (ps ++ [p])) : ∃ us u, ws = us ++ [u] ∧ Nodes K H0 H us ps ∧ NodeAt K H0 H u p := by
  rcases List.eq_nil_or_concat ws with rfl | ⟨us, u, rfl⟩
  · have := n.1; simp at this
  · rw [List.concat_eq_append] at n ⊢
    have l : us.length = ps.length := by have := n.1; simp at this; exact this
    refine ⟨us, u, rfl, ⟨l, fun i v q h1 h2 => n.2 i v q ?_ ?_⟩, n.2 us.length u p ?_ ?_⟩
    · rw [List.getElem?_append_left (List.getElem?_eq_some_iff.mp h1).1]; exact h1
    · rw [List.getElem?_append_left (List.getElem?_eq_some_iff.mp h2).1]; exact h2
    · simp
    · rw [l]; simp
section
variable {P : Program} {w : World} {K : PySem.W.Frag} {mg : Str → Option Value} {base : Heap}
def sp_depth (K : PySem.W.Frag) : Sp := fun vs H Q _ => ∃ (g : Env) (v : V) (x : Ex) (H0 : Hp), vs = [v] ∧ Same H0 H ∧ Dp K H0 v x.d ∧ ExW g x ∧ x.depth ≤ 8 ∧ ∀ H', Same H H' → Q (.int (x.depth : Int)) H'
theorem ok_depth (T : Top P K mg) : FnOk P w K mg base CX0 2 T.a_depth T.d_depth ["e"]  (sp_depth K) := by
  refine T.F_depth.ok sc_depth (fun vs H Q E h => ?_) (fun cdv A outer s H vs Q E hr h => ?_)
  · obtain ⟨_, _, _, _, rfl, _⟩ := h
    rfl
  · obtain ⟨g, v, x, H0, rfl, s0, dv, ew, dx, q⟩ := h
    refine ⟨_, (pss_cons (ps_set (i := 1) sc_depth.nd rfl (by first | exact Or.inl rfl | exact Or.inr rfl) pe_int)
  (pss_cons (ps_set (i := 2) sc_depth.nd rfl (by first | exact Or.inl rfl | exact Or.inr rfl) (pe_lst (pa_cons (pe_tup (pa_cons (pv 0) (pa_cons pe_int pa_nil))) pa_nil)))
  (pss_cons (ps_while PassesOwn.never (pt_truth (pv 2) (by intro _; rfl))
  (pss_cons (ps_asg (pe_bm0 PySem.F.plainAttrs_list PySem.F.slot_list_pop PySem.F.type_list_pop mt_pop (pv 2)) (pg_tup rfl (pgs_cons (pg_name (i := 3) sc_depth.nd rfl (by first | exact Or.inl rfl | exact Or.inr rfl)) (pgs_cons (pg_name (i := 4) sc_depth.nd rfl (by first | exact Or.inl rfl | exact Or.inr rfl)) pgs_nil))))
  (pss_cons (ps_set (i := 1) sc_depth.nd rfl (by first | exact Or.inl rfl | exact Or.inr rfl) (pe_callB (call_max2 rfl) (by rfl) T.m_max (by decide +kernel) (pa_cons (pv 1) (pa_cons (pv 4) pa_nil))))
  (pss_one (ps_for PassesOwn.never rfl (pi_list (pe_call (ok__operands T) (hr.mono (by decide)) (by rfl) T.g__operands T.F__operands.kp T.b__operands .nil pass0 (pa_cons (pv 3) pa_nil))) (pg_name (i := 5) sc_depth.nd rfl (by first | exact Or.inl rfl | exact Or.inr rfl))
  (pss_one (ps_expr (pe_bm PySem.F.plainAttrs_list PySem.F.slot_list_append PySem.F.type_list_append mt_append (pv 2) (pa_cons (pe_tup (pa_cons (pv 5) (pa_cons (pe_op op_add (pv 4) pe_int) pa_nil))) pa_nil)))))))))
  (pss_one (ps_ret (pv 1)))))), ?_⟩
    rw [show ∀ a0 : V, L2.start ["e", "deepest", "waiting", "part", "level", "operand"] [a0] = [some a0, none, none, none, none, none] from fun _ => rfl]
    have lx := post_len x 8 dx
    have lx2 : (2 : Nat) ^ 8 = 256 := rfl
    walk_at "my rn"
    intro t1 H1 n1 s1 h1
    walk_at "my rn"
    intro W H2 nW s2 hW
    have nWH : H W = none := s1.free nW
    walk_at "my rn"
    refine ⟨fun m σ H' => ∃ (ws : List V) (wd : List (Ex × Nat)) (dp : Nat) (y3 y4 y5 : Option V), m = (posts (wd.map (·.1))).length ∧ m ≤ x.post.length ∧ σ = [some v, some (.int (dp : Int)), some (.ref W), y3, y4, y5] ∧ Same H H' ∧ H' W = some (.lst ws) ∧
      Nodes K H0 H' ws wd ∧ (∀ e ∈ wd, ExW g e.1 ∧ 1 ≤ e.2) ∧ max dp (topD wd) = x.depth,
      ⟨_, [.ref t1], [(x, 1)], 0, none, none, none, rfl, by simp [posts], rfl, s1.trans s2, hW, ⟨rfl, fun i v' p h1' h2' => ?_⟩, fun e m => by rw [List.mem_singleton.mp m]; exact ⟨ew, Nat.le_refl _⟩, by show max 0 (max (1 + x.depth - 1) 0) = _; omega⟩, ?_⟩
    · match i, h1', h2' with
      | 0, h1', h2' =>
        cases h1'
        cases h2'
        exact ⟨t1, v, rfl, SqT.of (s2 _ _ h1), dv⟩
    rintro m σ H' ⟨ws, wd, dp, y3, y4, y5, rfl, hm, rfl, s4, hW4, nd, gw, tt⟩
    walk_at "my rn"
    rcases List.eq_nil_or_concat wd with rfl | ⟨wd0, ⟨e, lv⟩, rfl⟩
    · have e0 : ws = [] := List.eq_nil_of_length_eq_zero nd.1
      subst e0
      refine ⟨false, .inl ⟨[], SqL.of hW4, rfl⟩, Rd.ifF ?_⟩
      walk_at "my rn"
      have ed : dp = x.depth := by rw [← tt]; show dp = max dp 0; omega
      rw [ed]
      exact q _ s4
    · have ec : wd0.concat (e, lv) = wd0 ++ [(e, lv)] := List.concat_eq_append
      rw [ec] at nd gw tt hm ⊢
      obtain ⟨us, u, rfl, nu, t, nv, rfl, ht, dn⟩ := nd.pop
      obtain ⟨ge, l1⟩ := gw (e, lv) (by simp)
      have ep : posts ((wd0 ++ [(e, lv)]).map (·.1)) = posts (wd0.map (·.1)) ++ (posts e.ops ++ [e]) := by
        unfold posts
        rw [List.map_append, List.flatMap_append]
        show _ ++ (e.post ++ []) = _
        rw [List.append_nil, post_ops]; rfl
      rw [ep] at hm ⊢
      have lens : (posts (wd0.map (·.1)) ++ (posts e.ops ++ [e])).length = (posts (wd0.map (·.1))).length + (posts e.ops).length + 1 := by simp [Nat.add_assoc]
      rw [lens] at hm ⊢
      refine ⟨true, .inl ⟨_, SqL.of hW4, by simp⟩, Rd.ifT ⟨fun σ' H' => ∃ (ws : List V) (wd : List (Ex × Nat)) (dp : Nat) (y3 y4 y5 : Option V), (posts (wd.map (·.1))).length < (posts (wd0.map (·.1))).length + (posts e.ops).length + 1 ∧ σ' = [some v, some (.int (dp : Int)), some (.ref W), y3, y4, y5] ∧ Same H H' ∧ H' W = some (.lst ws) ∧
        Nodes K H0 H' ws wd ∧ (∀ e ∈ wd, ExW g e.1 ∧ 1 ≤ e.2) ∧ max dp (topD wd) = x.depth, fun σ' H' ⟨ws, wd, dp, y3, y4, y5, a, b⟩ => ⟨_, a, ws, wd, dp, y3, y4, y5, rfl, by omega, b⟩, ?_⟩⟩
      walk_at "my rn"
      refine Rd.popI hW4 (last_at' _ _) ?_
      rw [List.dropLast_concat]
      obtain ⟨H5, e5⟩ : ∃ H5, H5 = upd H' W (.lst us) := ⟨_, rfl⟩
      have hW5 : H5 W = some (.lst us) := by rw [e5]; exact upd_same
      have k5 : ∀ b y, b ≠ W → H' b = some y → H5 b = some y := fun b y n e => by rw [e5, upd_ne n]; exact e
      have s5 : Same H H5 := fun a o z => k5 a o (fun y => by rw [y, nWH] at z; cases z) (s4 a o z)
      have nu5 := nu.keep hW4 k5
      have ht5 : SqT K H5 t [nv, .int (lv : Int)] := by
        rcases ht with h | h
        · rcases h with h | ⟨o, h⟩
          · exact .inl (.inl (k5 _ _ (fun z => by rw [z, hW4] at h; cases h) h))
          · exact .inl (.inr ⟨o, k5 _ _ (fun z => by rw [z, hW4] at h; cases h) h⟩)
        · exact .inr h
      rw [← e5]
      walk_at "my rn"
      refine ⟨g, nv, e, H0, rfl, s0.trans s5, dn, ge, fun L7 ks H7 s7 nL7 hL7 ak => ?_⟩
      have lk : ks.length = e.ops.length := by rw [dps_len ak, List.length_map]
      have hW7 := s7 _ _ hW5
      have nu7 := nu5.same s7
      have LW : L7 ≠ W := fun z => by rw [z, hW5] at nL7; cases nL7
      have lus := nu.1
      have lwd0 := posts_pos (wd0.map (·.1))
      rw [List.length_map] at lwd0
      have lops := posts_pos e.ops
      walk_at "my rn"
      have em : (if (lv : Int) > (dp : Int) then (lv : Int) else (dp : Int)) = ((max dp lv : Nat) : Int) := by split <;> omega
      rw [em]
      refine for_it (walk_list (xs := ks)) (fun i σ H' => ∃ (zs : List V) (y5 : Option V), σ = [some v, some (.int ((max dp lv : Nat) : Int)), some (.ref W), some nv, some (.int (lv : Int)), y5] ∧ H' W = some (.lst zs) ∧ Nodes K H0 H' zs (wd0 ++ (e.ops.take i).map fun o => (o, lv + 1)) ∧ (∀ b y, b ≠ W → H7 b = some y → H' b = some y)) ⟨us, _, rfl, hW7, by simpa using nu7, fun _ _ _ h => h⟩ (fun i σ H' _ h => ?_) ?_ ?_
      · obtain ⟨_, _, _, _, _, k⟩ := h
        exact SqL.of (k _ _ LW hL7)
      · rintro i x0 σ Ho H8 hi ⟨zs, y5', rfl, hW8, n8, k8⟩ ⟨rfl, hx⟩
        obtain ⟨d0, hd, dx0⟩ := dp_at' ak hx
        rw [List.getElem?_map] at hd
        cases eo : e.ops[i]? with
        | none => rw [eo] at hd; cases hd
        | some o =>
          rw [eo] at hd
          cases hd
          have lz := n8.1
          rw [List.length_append, List.length_map, List.length_take] at lz
          walk_at "my rn"
          intro p H9 np s9 hp
          walk_at "my rn"
          have hW9 := s9 _ _ hW8
          have pW : p ≠ W := fun z => by rw [z, hW8] at np; cases np
          refine Rd.app hW9 (Rd.szl (by omega)) ?_
          refine ⟨_, _, rfl, upd_same, ?_, fun b y nb hb => by rw [upd_ne nb]; exact s9 _ _ (k8 b y nb hb)⟩
          have kk : ∀ b y, b ≠ W → H9 b = some y → upd H9 W (.lst (zs ++ [.ref p])) b = some y := fun b y nb hb => by rw [upd_ne nb]; exact hb
          have n9 := (n8.same s9).keep hW9 kk
          rw [List.take_add_one, eo, List.map_append, ← List.append_assoc]
          exact n9.snoc ⟨p, x0, rfl, SqT.of (by show (upd _ _ _) _ = some (.tup [x0, .int ((lv + 1 : Nat) : Int)]); rw [upd_ne pW, hp]; rfl), dx0⟩
      · rintro σ H8 ⟨zs, y5', rfl, hW8, n8, k8⟩
        walk_at "my rn"
        rw [List.take_of_length_le (by omega)] at n8
        refine ⟨zs, wd0 ++ e.ops.map fun o => (o, lv + 1), max dp lv, _, _, _, ?_, rfl, fun a o z => k8 a o (fun y => by rw [y, nWH] at z; cases z) ((s5.trans s7) a o z), hW8, n8, fun f mf => ?_, ?_⟩
        · have e1 : posts ((wd0 ++ e.ops.map fun o => (o, lv + 1)).map (·.1)) = posts (wd0.map (·.1)) ++ posts e.ops := by
            unfold posts
            rw [List.map_append, List.flatMap_append, List.map_map]
            show _ ++ List.flatMap Ex.post (List.map id e.ops) = _
            rw [List.map_id]
          rw [e1, List.length_append]
          omega
        · rcases List.mem_append.mp mf with mf | mf
          · exact gw f (List.mem_append.mpr (.inl mf))
          · obtain ⟨o, mo, rfl⟩ := List.mem_map.mp mf
            exact ⟨exw_ops ge o mo, by show 1 ≤ lv + 1; omega⟩
        · have t1 := topD_ops e lv l1
          have e1 : topD [(e, lv)] = lv + e.depth - 1 := by show max (lv + e.depth - 1) 0 = _; omega
          rw [topD_app, e1] at tt
          rw [topD_app]
          omega
end


set_option Elab.async false
set_option linter.all false
set_option maxRecDepth 100000
set_option maxHeartbeats 1000000
--@@rec _check_statements _check_statement

--@@guards
/-! ### expressions -/
theorem posts_exw {g : Env} : ∀ {e : Ex}, ExW g e → ∀ f ∈ e.post, ExW g f := by
  intro e
  induction e with
  | num n => intro h f m; rw [List.mem_singleton.mp m]; exact h
  | cell s => intro h f m; rw [List.mem_singleton.mp m]; exact h
  | «at» s i ih =>
    intro h f m
    rcases List.mem_append.mp m with m | m
    · exact ih h.2 f m
    · rw [List.mem_singleton.mp m]; exact h
  | un s i ih =>
    intro h f m
    rcases List.mem_append.mp m with m | m
    · exact ih h.2 f m
    · rw [List.mem_singleton.mp m]; exact h
  | bin s a b iha ihb =>
    intro h f m
    rcases List.mem_append.mp m with m | m
    · rcases List.mem_append.mp m with m | m
      · exact iha h.2.1 f m
      · exact ihb h.2.2 f m
    · rw [List.mem_singleton.mp m]; exact h
def okPart (m : List (Str × Int)) : Ex → Bool
  | .cell s => decide (lkI m s = some 0 ∨ lkI m s = some 2)
  | .at s _ => decide (lkI m s = some 1)
  | _ => true
def mExpr (m : List (Str × Int)) (x : Ex) (k : Int) : Option Str := if x.post.length ≤ 40 ∧ (x.depth : Int) ≤ k then (if x.post.all (okPart m) then none else some "cell") else some "size"
section
variable {P : Program} {w : World} {K : PySem.W.Frag} {mg : Str → Option Value} {base : Heap}
theorem inTI {H : Hp} {Q : VK} {p : Addr} {ns : List Int} {n : Int} (h : H p = some (.tup (ns.map V.int))) (q : Q (.bl (decide (n ∈ ns))) H) : rIn K false (.int n) (.ref p) H Q :=
  ⟨p, _, rfl, .inr (SqT.of h), rfl, Rd.flat_ints _, by rw [Rd.inV_ints]; exact q⟩
def sp__check_expression (K : PySem.W.Frag) (C : Addr) : Sp := fun vs H Q E => ∃ (g : Env) (v : V) (x : Ex) (k : Int) (T_ : Addr) (m : List (Str × Int)), vs = [v, .int k, .ref T_] ∧ Dp K H v x.d ∧ ExW g x ∧ x.depth ≤ 8 ∧ H T_ = some (DSI m) ∧ Res C (mExpr m x k) H Q E
theorem ok__check_expression (T : Top P K mg) : FnOk P w K mg base (L2.CX P w) 4 T.a__check_expression T.d__check_expression ["e", "deepest", "scope"]  (sp__check_expression K T.C_RuleError) := by
  refine T.F__check_expression.okX sc__check_expression (fun vs H Q E h => ?_) (fun cdv A outer s H vs Q E hr h => ?_)
  · obtain ⟨_, _, _, _, _, _, rfl, _⟩ := h
    rfl
  · obtain ⟨g, v, x, k, T_, m, rfl, dv, ew, d8, ht, q, qe⟩ := h
    refine ⟨_, (pss_cons (ps_set (i := 3) sc__check_expression.nd rfl (by first | exact Or.inl rfl | exact Or.inr rfl) (pe_call (ok_parts T) (hr.mono (by decide)) (by rfl) T.g_parts T.F_parts.kp T.b_parts .nil pass0 (pa_cons (pv 0) pa_nil)))
  (pss_cons (ps_expr (pe_callS (ok__demand T) (hr.mono (by decide)) (by rfl) T.g__demand T.F__demand.kp T.b__demand (fun σ => passAt (takes_of rfl rfl rfl rfl) σ) (pa_cons (pe_and (pe_cmpR op_le (pe_callB call_len_seq (by rfl) T.m_len PySem.boot_len (pa_cons (pv 3) pa_nil)) (pe_gi (by rfl) T.c_MOST_PARTS) (nomark _)) (pe_one (pe_cmpR op_le (pe_call (ok_depth T) (hr.mono (by decide)) (by rfl) T.g_depth T.F_depth.kp T.b_depth .nil pass0 (pa_cons (pv 0) pa_nil)) (pv 1) (nomark _)))) (pa_cons pe_str pa_nil))))
  (pss_one (ps_for (passes_of rfl) rfl (pi_list (pv 3)) (pg_name (i := 4) sc__check_expression.nd rfl (by first | exact Or.inl rfl | exact Or.inr rfl))
  (pss_one (ps_if (pt_cmpR op_eq (pe_ix ix_tup (pv 4) pe_int (fun _ _ => rfl)) pe_str (nomark _))
  (pss_one (ps_expr (pe_callS (ok__demand T) (hr.mono (by decide)) (by rfl) T.g__demand T.F__demand.kp T.b__demand (fun σ => passAt (takes_of rfl rfl rfl rfl) σ) (pa_cons (pe_cmpR op_in_seq (pe_dget1 (hu_of hr) (pv 2) (pe_ix ix_tup (pv 4) pe_int (fun _ _ => rfl)) ⟨by rfl, by rfl, by rfl, by rfl⟩) (pe_tup (pa_cons (pe_gi (by rfl) T.c_SINGLE) (pa_cons (pe_gi (by rfl) T.c_VARIABLE) pa_nil))) (by with_unfolding_all rfl)) (pa_cons pe_str pa_nil)))))
  (pss_one (ps_if (pt_cmpR op_eq (pe_ix ix_tup (pv 4) pe_int (fun _ _ => rfl)) pe_str (nomark _))
  (pss_one (ps_expr (pe_callS (ok__demand T) (hr.mono (by decide)) (by rfl) T.g__demand T.F__demand.kp T.b__demand (fun σ => passAt (takes_of rfl rfl rfl rfl) σ) (pa_cons (pe_cmpR op_eq (pe_dget1 (hu_of hr) (pv 2) (pe_ix ix_tup (pv 4) pe_int (fun _ _ => rfl)) ⟨by rfl, by rfl, by rfl, by rfl⟩) (pe_gi (by rfl) T.c_ARRAY) (nomark _)) (pa_cons pe_str pa_nil)))))
  pss_nil)))))))), ?_⟩
    rw [show ∀ a0 a1 a2 : V, L2.start ["e", "deepest", "scope", "found", "part"] [a0, a1, a2] = [some a0, some a1, some a2, none, none] from fun _ _ _ => rfl]
    have lx := post_len x 8 d8
    have lx2 : (2 : Nat) ^ 8 = 256 := rfl
    unfold mExpr at q qe
    walk_at "my rn"
    refine ⟨g, v, x, H, rfl, Same.refl _, dv, ew, d8, fun L ws H1 s1 nL hL aws => ?_⟩
    have lws : ws.length = x.post.length := by rw [dps_len aws, List.length_map]
    walk_at "my rn"
    by_cases hp : x.post.length ≤ 40
    case neg =>
      rw [decide_eq_false (show ¬ (ws.length : Int) ≤ 40 by omega)]
      refine Rd.ifF ?_
      walk_at "my rn"
      exact ⟨false, "size", rfl, by decide, fun e => (by cases e), fun _ => (qe _ (if_neg fun h => hp h.1)).same s1⟩
    rw [decide_eq_true (show (ws.length : Int) ≤ 40 by omega)]
    refine Rd.ifT ?_
    walk_at "my rn"
    refine ⟨g, v, x, H, rfl, s1, dv, ew, d8, fun H2 s2 => ?_⟩
    have S2 := s1.trans s2
    walk_at "my rn"
    by_cases hk : (x.depth : Int) ≤ k
    case neg =>
      rw [decide_eq_false hk]
      exact ⟨false, "size", rfl, by decide, fun e => (by cases e), fun _ => (qe _ (if_neg fun h => hk h.2)).same S2⟩
    rw [decide_eq_true hk]
    rw [if_pos ⟨hp, hk⟩] at q qe
    refine ⟨true, "size", rfl, by decide, fun _ => ?_, fun e => by cases e⟩
    walk_at "my rn"
    refine ⟨⟨_, SqL.of (s2 _ _ hL)⟩, ?_⟩
    refine for_it (walk_list (xs := ws)) (fun i σ H' => ∃ (y : Option V), σ = [some v, some (.int k), some (.ref T_), some (.ref L), y] ∧ Same H2 H' ∧ ∀ o ∈ x.post.take i, okPart m o = true) ⟨none, rfl, Same.refl _, fun o mo => by simp at mo⟩ (fun i σ H' _ ⟨_, _, s, _⟩ => SqL.of (s _ _ (s2 _ _ hL))) ?_ ?_
    · rintro i x0 σ Ho H3 hi ⟨y, rfl, s3, al⟩ ⟨rfl, hx⟩
      obtain ⟨d0, hd, dx0⟩ := dp_at' aws hx
      rw [List.getElem?_map] at hd
      cases eo : x.post[i]? with
      | none => rw [eo] at hd; cases hd
      | some o =>
        rw [eo] at hd
        cases hd
        have S3 := S2.trans s3
        have mo := List.mem_of_getElem? eo
        have ow := posts_exw ew o mo
        have dx3 := dp_same S3 dx0
        have ht3 := S3 _ _ ht
        have good : okPart m o = true → ∀ o' ∈ x.post.take (i + 1), okPart m o' = true := fun h o' m' => by
          rw [List.take_add_one, eo] at m'
          rcases List.mem_append.mp m' with m' | m'
          · exact al o' m'
          · have e : o' = o := by simpa using m'
            rw [e]; exact h
        have bad : ∀ {Hx : Hp}, Same H3 Hx → okPart m o = false → RuleOut T.C_RuleError "cell" Hx E := fun s h => (qe "cell" (if_neg fun z => by rw [List.all_eq_true.mp z o mo] at h; cases h)).same (S3.trans s)
        cases o with
        | num n =>
          obtain ⟨t, xs, rfl, hx', ha⟩ := dpT dx3
          obtain ⟨v0, x0, rfl, d0, ha⟩ := dp1 ha
          obtain ⟨v1, x0, rfl, d1, ha⟩ := dp1 ha
          cases dp0 ha; cases dpS d0
          walk_at "my rn"
          refine Rd.ifD (fun z => absurd (V.str.inj z) (by decide +kernel)) fun _ => ?_
          walk_at "my rn"
          refine Rd.ifD (fun z => absurd (V.str.inj z) (by decide +kernel)) fun _ => ?_
          exact ⟨_, rfl, s3, good rfl⟩
        | cell s =>
          obtain ⟨t, xs, rfl, hx', ha⟩ := dpT dx3
          obtain ⟨v0, x0, rfl, d0, ha⟩ := dp1 ha
          obtain ⟨v1, x0, rfl, d1, ha⟩ := dp1 ha
          cases dp0 ha; cases dpS d0; cases dpS d1
          walk_at "my rn"
          refine Rd.ifD (fun _ => ?_) fun z => absurd rfl z
          walk_at "my rn"
          refine Rd.dget1S ht3 ?_
          rw [lks_i]
          cases lk : lkI m s with
          | none =>
            walk_at "my rn"
            intro p H4 np s4 hp
            have e : okPart m (.cell s) = false := by show decide (lkI m s = some 0 ∨ lkI m s = some 2) = false; rw [lk]; rfl
            refine ⟨p, [.int 0, .int 2], rfl, .inr (SqT.of hp), rfl, rfl, ?_⟩
            walk_at "my rn"
            exact ⟨false, "cell", rfl, by decide, fun e => (by cases e), fun _ => bad s4 e⟩
          | some n =>
            walk_at "my rn"
            intro p H4 np s4 hp
            refine inTI (ns := [0, 2]) (n := n) hp ?_
            have eq : decide (n ∈ ([0, 2] : List Int)) = okPart m (.cell s) := by
              show _ = decide (lkI m s = some 0 ∨ lkI m s = some 2)
              rw [lk]
              simp
            rw [eq]
            walk_at "my rn"
            refine ⟨_, "cell", rfl, by decide, fun e => ?_, fun e => bad s4 e⟩
            exact ⟨_, rfl, s3.trans s4, good e⟩
        | «at» s i' =>
          obtain ⟨t, xs, rfl, hx', ha⟩ := dpT dx3
          obtain ⟨v0, x0, rfl, d0, ha⟩ := dp1 ha
          obtain ⟨v1, x0, rfl, d1, ha⟩ := dp1 ha
          obtain ⟨v2, x0, rfl, d2, ha⟩ := dp1 ha
          cases dp0 ha; cases dpS d0; cases dpS d1
          walk_at "my rn"
          refine Rd.ifD (fun z => absurd (V.str.inj z) (by decide +kernel)) fun _ => ?_
          walk_at "my rn"
          refine Rd.ifD (fun _ => ?_) fun z => absurd rfl z
          walk_at "my rn"
          refine Rd.dget1S ht3 ?_
          rw [lks_i]
          cases lk : lkI m s with
          | none =>
            have e : okPart m (.at s i') = false := by show decide (lkI m s = some 1) = false; rw [lk]; rfl
            walk_at "my rn"
            exact ⟨false, "cell", rfl, by decide, fun e => (by cases e), fun _ => bad (Same.refl _) e⟩
          | some n =>
            have e : okPart m (.at s i') = decide (V.int n = V.int 1) := by show decide (lkI m s = some 1) = _; rw [lk]; simp
            walk_at "my rn"
            rw [show (Option.map V.int (some n)).getD .non = V.int n from rfl, ← e]
            refine ⟨_, "cell", rfl, by decide, fun e => ?_, fun e => bad (Same.refl _) e⟩
            exact ⟨_, rfl, s3, good e⟩
        | un k2 a =>
          obtain ⟨n1, n2, n3⟩ := un_kind (.inl ow.1)
          obtain ⟨t, xs, rfl, hx', ha⟩ := dpT dx3
          obtain ⟨v0, x0, rfl, d0, ha⟩ := dp1 ha
          obtain ⟨v1, x0, rfl, d1, ha⟩ := dp1 ha
          cases dp0 ha; cases dpS d0
          walk_at "my rn"
          refine Rd.ifD (fun z => absurd (V.str.inj z) n2) fun _ => ?_
          walk_at "my rn"
          refine Rd.ifD (fun z => absurd (V.str.inj z) n3) fun _ => ?_
          exact ⟨_, rfl, s3, good rfl⟩
        | bin k2 a b =>
          obtain ⟨n1, n2, n3⟩ := un_kind (.inr ow.1)
          obtain ⟨t, xs, rfl, hx', ha⟩ := dpT dx3
          obtain ⟨v0, x0, rfl, d0, ha⟩ := dp1 ha
          obtain ⟨v1, x0, rfl, d1, ha⟩ := dp1 ha
          obtain ⟨v2, x0, rfl, d2, ha⟩ := dp1 ha
          cases dp0 ha; cases dpS d0
          walk_at "my rn"
          refine Rd.ifD (fun z => absurd (V.str.inj z) n2) fun _ => ?_
          walk_at "my rn"
          refine Rd.ifD (fun z => absurd (V.str.inj z) n3) fun _ => ?_
          exact ⟨_, rfl, s3, good rfl⟩
    · rintro σ H3 ⟨y, rfl, s3, al⟩
      rw [List.take_of_length_le (by omega)] at al
      walk_at "my rn"
      exact q (if_pos (List.all_eq_true.mpr al)) _ (S2.trans s3)
end


set_option Elab.async false
set_option linter.all false
set_option maxRecDepth 100000
set_option maxHeartbeats 1000000
--@@rec _check_statements _check_statement

--@@guards
/-! ### the expressions of a statement, in order -/
def prD (p : Ex × Int) : PyData := .tuple [p.1.d, .int p.2]
def idxOf : Option Pl → List (Ex × Int)
  | some (.at _ i) => [(i, 6)]
  | _ => []
def exprsOf : Stm → List (Ex × Int)
  | .set p e => (e, 6) :: idxOf (some p)
  | .ifs e _ _ => [(e, 6)]
  | .write _ e => [(e, 6)]
  | .loop _ _ e _ => match e with
    | none => []
    | some e => [(e, 6)]
  | .read p _ => idxOf (some p)
  | .call p _ _ as => as.map (fun e => (e, 4)) ++ idxOf p
section
variable {P : Program} {w : World} {K : PySem.W.Frag} {mg : Str → Option Value} {base : Heap}
def sp__index (K : PySem.W.Frag) : Sp := fun vs H Q _ => ∃ (v : V) (p : Option Pl), vs = [v] ∧ Dp K H v (optD (p.map Pl.d)) ∧ ∀ (L : Addr) (us : List V) H', Same H H' → H L = none → H' L = some (.lst us) → DpAll K H' us ((idxOf p).map prD) → Q (.ref L) H'
theorem ok__index (T : Top P K mg) : FnOk P w K mg base CX0 1 T.a__index T.d__index ["place"]  (sp__index K) := by
  refine T.F__index.ok sc__index (fun vs H Q E h => ?_) (fun cdv A outer s H vs Q E hr h => ?_)
  · obtain ⟨_, _, rfl, _⟩ := h
    rfl
  · obtain ⟨v, p, rfl, hv, q⟩ := h
    refine ⟨_, (pss_cons (ps_if (pw_or (pt_cmpR op_isN (pv 0) pe_non (nomark _)) (pw_or1 (pt_cmpR op_eq (pe_ix ix_tup (pv 0) pe_int (fun _ _ => rfl)) pe_str (nomark _)))).pt
  (pss_one (ps_ret (pe_lst pa_nil)))
  pss_nil)
  (pss_one (ps_ret (pe_lst (pa_cons (pe_tup (pa_cons (pe_ix ix_tup (pv 0) pe_int (fun _ _ => rfl)) (pa_cons (pe_gi (by rfl) T.c_DEEPEST) pa_nil))) pa_nil))))), ?_⟩
    rw [show ∀ a0 : V, L2.start ["place"] [a0] = [some a0] from fun _ => rfl]
    walk_at "my rn"
    cases p with
    | none =>
      cases dpN hv
      rw [decide_eq_true rfl]
      refine Rd.ifT (Rd.ifT ?_)
      walk_at "my rn"
      intro L H1 nL s1 hL
      exact q L _ H1 s1 nL hL .nil
    | some p =>
      have dp : Dp K H v p.d := hv
      cases p with
      | cell s =>
        obtain ⟨t, ys, rfl, h3, h4⟩ := dpT dp
        obtain ⟨v1, r1, rfl, a1, h5⟩ := dp1 h4
        obtain ⟨v2, r2, rfl, a2, h6⟩ := dp1 h5
        rw [dp0 h6, dpS a1, dpS a2] at h3
        rw [decide_eq_false (by intro z; cases z)]
        refine Rd.ifF ?_
        walk_at "my rn"
        refine Rd.ifD (fun _ => ?_) fun z => absurd rfl z
        walk_at "my rn"
        intro L H1 nL s1 hL
        exact q L _ H1 s1 nL hL .nil
      | «at» s i =>
        obtain ⟨t, ys, rfl, h3, h4⟩ := dpT dp
        obtain ⟨v1, r1, rfl, a1, h5⟩ := dp1 h4
        obtain ⟨v2, r2, rfl, a2, h6⟩ := dp1 h5
        obtain ⟨v3, r3, rfl, a3, h7⟩ := dp1 h6
        rw [dp0 h7, dpS a1, dpS a2] at h3
        rw [decide_eq_false (by intro z; cases z)]
        refine Rd.ifF ?_
        walk_at "my rn"
        refine Rd.ifD (fun z => absurd (V.str.inj z) (by decide +kernel)) fun _ => ?_
        walk_at "my rn"
        intro t2 H1 n1 s1 h1
        walk_at "my rn"
        intro L H2 nL s2 hL
        have S2 := s1.trans s2
        exact q L _ H2 S2 (s1.free nL) hL (.cons (.tup (SqT.of (s2 _ _ h1)) (.cons (dp_same S2 a3) (.cons (.int _) .nil))) .nil)
def sp__expressions (K : PySem.W.Frag) : Sp := fun vs H Q _ => ∃ (v : V) (x : Stm), vs = [v] ∧ Dp K H v x.d ∧ (exprsOf x).length ≤ 1000 ∧ ∀ (L : Addr) (us : List V) H', Same H H' → H' L = some (.lst us) → DpAll K H' us ((exprsOf x).map prD) → Q (.ref L) H'
theorem ok__expressions (T : Top P K mg) : FnOk P w K mg base CX0 2 T.a__expressions T.d__expressions ["statement"]  (sp__expressions K) := by
  refine T.F__expressions.ok sc__expressions (fun vs H Q E h => ?_) (fun cdv A outer s H vs Q E hr h => ?_)
  · obtain ⟨_, _, rfl, _⟩ := h
    rfl
  · obtain ⟨v, x, rfl, dv, sw, q⟩ := h
    refine ⟨_, (pss_one (ps_matchQ rfl (pv 0)
  (PCq.seq (PMs.txt (PMs.cap (i := 1) sc__expressions.nd rfl (by first | exact Or.inl rfl | exact Or.inr rfl) (by first | exact Or.inl rfl | exact Or.inr rfl) (PMs.cap (i := 2) sc__expressions.nd rfl (by first | exact Or.inl rfl | exact Or.inr rfl) (by first | exact Or.inl rfl | exact Or.inr rfl) PMs.nil))) (pss_one (ps_ret (pe_op op_catQ (pe_lst (pa_cons (pe_tup (pa_cons (pv 2) (pa_cons (pe_gi (by rfl) T.c_DEEPEST) pa_nil))) pa_nil)) (pe_call (ok__index T) (hr.mono (by decide)) (by rfl) T.g__index T.F__index.kp T.b__index .nil pass0 (pa_cons (pv 1) pa_nil)))))
  (PCq.seq (PMs.txt (PMs.cap (i := 2) sc__expressions.nd rfl (by first | exact Or.inl rfl | exact Or.inr rfl) (by first | exact Or.inl rfl | exact Or.inr rfl) (PMs.any (PMs.any PMs.nil)))) (pss_one (ps_ret (pe_lst (pa_cons (pe_tup (pa_cons (pv 2) (pa_cons (pe_gi (by rfl) T.c_DEEPEST) pa_nil))) pa_nil))))
  (PCq.seq (PMs.txt (PMs.any (PMs.cap (i := 2) sc__expressions.nd rfl (by first | exact Or.inl rfl | exact Or.inr rfl) (by first | exact Or.inl rfl | exact Or.inr rfl) PMs.nil))) (pss_one (ps_ret (pe_lst (pa_cons (pe_tup (pa_cons (pv 2) (pa_cons (pe_gi (by rfl) T.c_DEEPEST) pa_nil))) pa_nil))))
  (PCq.seq (PMs.txt (PMs.any (PMs.any (PMs.cap (i := 2) sc__expressions.nd rfl (by first | exact Or.inl rfl | exact Or.inr rfl) (by first | exact Or.inl rfl | exact Or.inr rfl) (PMs.any PMs.nil))))) (pss_one (ps_ret (pe_ifExp (pt_cmpR op_isN (pv 2) pe_non (nomark _)) (pe_lst pa_nil) (pe_lst (pa_cons (pe_tup (pa_cons (pv 2) (pa_cons (pe_gi (by rfl) T.c_DEEPEST) pa_nil))) pa_nil)))))
  (PCq.seq (PMs.txt (PMs.cap (i := 1) sc__expressions.nd rfl (by first | exact Or.inl rfl | exact Or.inr rfl) (by first | exact Or.inl rfl | exact Or.inr rfl) (PMs.any PMs.nil))) (pss_one (ps_ret (pe_call (ok__index T) (hr.mono (by decide)) (by rfl) T.g__index T.F__index.kp T.b__index .nil pass0 (pa_cons (pv 1) pa_nil))))
  (PCq.seq (PMs.txt (PMs.cap (i := 1) sc__expressions.nd rfl (by first | exact Or.inl rfl | exact Or.inr rfl) (by first | exact Or.inl rfl | exact Or.inr rfl) (PMs.any (PMs.any (PMs.cap (i := 3) sc__expressions.nd rfl (by first | exact Or.inl rfl | exact Or.inr rfl) (by first | exact Or.inl rfl | exact Or.inr rfl) PMs.nil))))) (pss_one (ps_ret (pe_op op_catQ (pe_lc (own := [("argument", 4)]) (g := gName 4) (tt := tYes) rfl sc__expressions.nd (pi_list (pv 3)) (blkOk_by (N := ["statement", "place", "value", "given", "argument"]) (sc := defScope s__expressions) (by decide +kernel)) (fun _ _ _ _ _ => pg_name (i := 4) sc__expressions.nd rfl (Or.inl rfl)) (fun _ _ _ _ _ => pts_nil) (fun _ _ _ _ _ => (pe_tup (pa_cons (pv 4) (pa_cons (pe_gi (by rfl) T.c_DEEPEST_ARGUMENT) pa_nil))))) (pe_call (ok__index T) (hr.mono (by decide)) (by rfl) T.g__index T.F__index.kp T.b__index .nil pass0 (pa_cons (pv 1) pa_nil)))))
  PCq.nil)))))))), ?_⟩
    rw [show ∀ a0 : V, L2.start ["statement", "place", "value", "given", "argument"] [a0] = [some a0, none, none, none, none] from fun _ => rfl]
    cases x with
    | set p e =>
      obtain ⟨t, ys, rfl, h3, h4⟩ := dpT dv
      obtain ⟨v1, r1, rfl, a1, h5⟩ := dp1 h4
      obtain ⟨v2, r2, rfl, a2, h6⟩ := dp1 h5
      obtain ⟨v3, r3, rfl, a3, h7⟩ := dp1 h6
      rw [dp0 h7, dpS a1] at h3
      walk_at "my rn"
      intro t2 H1 n1 s1 h1
      walk_at "my rn"
      intro L H2 nL s2 hL
      have S2 := s1.trans s2
      have xe : DpAll K H2 [.ref t2] [prD (e, 6)] := .cons (.tup (SqT.of (s2 _ _ h1)) (.cons (dp_same S2 a3) (.cons (.int _) .nil))) .nil
      walk_at "my rn"
      refine ⟨v2, some p, rfl, dp_same S2 a2, fun L2_ us H3 s3 nL2 hL2 xu => ?_⟩
      have lu : us.length ≤ 1 := by
        rw [dps_len xu, List.length_map]
        cases p <;> simp [idxOf]
      refine Rd.catQ (SqL.of (s3 _ _ hL)) (SqL.of hL2) (by simp; omega) fun U H4 nU s4 hU => ?_
      exact q U _ H4 (S2.trans (s3.trans s4)) hU (dps_app (dps_same (s3.trans s4) xe) (dps_same s4 xu))
    | ifs e a b =>
      obtain ⟨t, ys, rfl, h3, h4⟩ := dpT dv
      obtain ⟨v1, r1, rfl, a1, g1⟩ := dp1 h4
      obtain ⟨v2, r2, rfl, a2, g2⟩ := dp1 g1
      obtain ⟨v3, r3, rfl, a3, g3⟩ := dp1 g2
      obtain ⟨v4, r4, rfl, a4, g4⟩ := dp1 g3
      rw [dp0 g4, dpS a1] at h3
      walk_at "my rn"
      intro t2 H1 n1 s1 h1
      walk_at "my rn"
      intro L H2 nL s2 hL
      have S2 := s1.trans s2
      exact q L _ H2 S2 hL (.cons (.tup (SqT.of (s2 _ _ h1)) (.cons (dp_same S2 a2) (.cons (.int _) .nil))) .nil)
    | loop n k e b =>
      obtain ⟨t, ys, rfl, h3, h4⟩ := dpT dv
      obtain ⟨v1, r1, rfl, a1, g1⟩ := dp1 h4
      obtain ⟨v2, r2, rfl, a2, g2⟩ := dp1 g1
      obtain ⟨v3, r3, rfl, a3, g3⟩ := dp1 g2
      obtain ⟨v4, r4, rfl, a4, g4⟩ := dp1 g3
      obtain ⟨v5, r5, rfl, a5, g5⟩ := dp1 g4
      rw [dp0 g5, dpS a1] at h3
      cases e with
      | none =>
        cases dpN a4
        walk_at "my rn"
        rw [decide_eq_true rfl]
        refine Rd.ifT ?_
        walk_at "my rn"
        intro L H1 nL s1 hL
        exact q L _ H1 s1 hL .nil
      | some e =>
        have nn : v4 ≠ .non := fun z => by
          subst z
          have a4' : Dp K H .non e.d := a4
          cases e <;> cases a4'
        walk_at "my rn"
        rw [decide_eq_false nn]
        refine Rd.ifF ?_
        walk_at "my rn"
        intro t2 H1 n1 s1 h1
        walk_at "my rn"
        intro L H2 nL s2 hL
        have S2 := s1.trans s2
        exact q L _ H2 S2 hL (.cons (.tup (SqT.of (s2 _ _ h1)) (.cons (dp_same S2 a4) (.cons (.int _) .nil))) .nil)
    | call p o op as =>
      obtain ⟨t, ys, rfl, h3, h4⟩ := dpT dv
      obtain ⟨v1, r1, rfl, a1, g1⟩ := dp1 h4
      obtain ⟨v2, r2, rfl, a2, g2⟩ := dp1 g1
      obtain ⟨v3, r3, rfl, a3, g3⟩ := dp1 g2
      obtain ⟨v4, r4, rfl, a4, g4⟩ := dp1 g3
      obtain ⟨v5, r5, rfl, a5, g5⟩ := dp1 g4
      rw [dp0 g5, dpS a1] at h3
      obtain ⟨G, gs, rfl, hG, dgs⟩ := dpL a5
      have lgs : gs.length = as.length := by rw [dps_len dgs, List.length_map]
      have las : as.length ≤ 1000 := by have : (as.map (fun e => (e, (4 : Int))) ++ idxOf p).length ≤ 1000 := sw; rw [List.length_append, List.length_map] at this; omega
      walk_at "my rn"
      intro D nD
      refine Rd.lc_rel (walk_list (xs := gs)) (fun j v Hx => ∃ (t2 : Addr) (u : V), v = .ref t2 ∧ t2 ≠ D ∧ Hx t2 = some (.tup [u, .int 4]) ∧ gs[j]? = some u) nD (by omega) (fun _ v _ _ ⟨t2, u, e1, e2, e3, e4⟩ b => ⟨t2, u, e1, e2, b _ _ e2 e3, e4⟩) (fun H b => (b.to nD).seq hG) (fun j x Hjo Hj Kt hj b hDl y kt => ?_) (fun H4 us lus hus s4 hD => ?_)
      · obtain ⟨rfl, hx⟩ := y
        obtain ⟨xs, hDl⟩ := hDl
        simp only [List.map_cons, List.map_nil, L2.wipe, List.set_cons_succ, List.set_cons_zero]
        walk_at "my rn"
        refine ⟨rfl, ?_⟩
        walk_at "my rn"
        intro t2 H2 n2 s2 h2
        exact kt _ _ ⟨t2, x, rfl, (fun z => by rw [z, hDl] at n2; cases n2), h2, hx⟩ s2
      · have xu : DpAll K H4 us ((as.map fun e => (e, (4 : Int))).map prD) := dps_of (by rw [List.length_map, List.length_map, lus, lgs]) fun i u d hi hd => by
          obtain ⟨t2, x, rfl, _, h5, h6⟩ := hus i u hi
          obtain ⟨d0, hd0, dx0⟩ := dp_at' dgs h6
          rw [List.getElem?_map] at hd0
          rw [List.getElem?_map, List.getElem?_map] at hd
          cases eo : as[i]? with
          | none => rw [eo] at hd0; cases hd0
          | some o =>
            rw [eo] at hd hd0
            cases hd0
            cases hd
            exact .tup (SqT.of h5) (.cons (dp_same s4 dx0) (.cons (.int _) .nil))
        walk_at "my rn"
        refine ⟨v2, p, rfl, dp_same s4 a2, fun L2_ us2 H5 s5 nL2 hL2 xu2 => ?_⟩
        have lu2 : us2.length ≤ 1 := by
          rw [dps_len xu2, List.length_map]
          cases p with
          | none => simp [idxOf]
          | some p => cases p <;> simp [idxOf]
        refine Rd.catQ (SqL.of (s5 _ _ hD)) (SqL.of hL2) (by omega) fun U H6 nU s6 hU => ?_
        refine q U _ H6 (s4.trans (s5.trans s6)) hU ?_
        show DpAll K H6 _ ((as.map (fun e => (e, (4 : Int))) ++ idxOf p).map prD)
        rw [List.map_append]
        exact dps_app (dps_same (s5.trans s6) xu) (dps_same s6 xu2)
    | read p t =>
      obtain ⟨t, ys, rfl, h3, h4⟩ := dpT dv
      obtain ⟨v1, r1, rfl, a1, g1⟩ := dp1 h4
      obtain ⟨v2, r2, rfl, a2, g2⟩ := dp1 g1
      obtain ⟨v3, r3, rfl, a3, g3⟩ := dp1 g2
      rw [dp0 g3, dpS a1] at h3
      walk_at "my rn"
      refine ⟨v2, some p, rfl, a2, fun L2_ us H3 s3 nL2 hL2 xu => ?_⟩
      exact q L2_ us H3 s3 hL2 xu
    | write t e =>
      obtain ⟨t, ys, rfl, h3, h4⟩ := dpT dv
      obtain ⟨v1, r1, rfl, a1, g1⟩ := dp1 h4
      obtain ⟨v2, r2, rfl, a2, g2⟩ := dp1 g1
      obtain ⟨v3, r3, rfl, a3, g3⟩ := dp1 g2
      rw [dp0 g3, dpS a1] at h3
      walk_at "my rn"
      intro t2 H1 n1 s1 h1
      walk_at "my rn"
      intro L H2 nL s2 hL
      have S2 := s1.trans s2
      exact q L _ H2 S2 hL (.cons (.tup (SqT.of (s2 _ _ h1)) (.cons (dp_same S2 a3) (.cons (.int _) .nil))) .nil)
end


set_option Elab.async false
set_option linter.all false
set_option maxRecDepth 100000
set_option maxHeartbeats 1000000
--@@rec _check_statements _check_statement

--@@guards
/-! ### deadbeat.trees: the statements of a body -/
mutual
def Stm.flat : Stm → List Stm
  | .set p e => [.set p e]
  | .ifs e a b => .ifs e a b :: (flats a ++ flats b)
  | .loop n k e b => .loop n k e b :: flats b
  | .call p o op as => [.call p o op as]
  | .read p t => [.read p t]
  | .write t e => [.write t e]
def flats : List Stm → List Stm
  | [] => []
  | s :: r => s.flat ++ flats r
end
mutual
def Stm.nest : Stm → Nat
  | .set _ _ => 0
  | .ifs _ a b => 1 + max (nests a) (nests b)
  | .loop _ _ _ b => 1 + nests b
  | .call _ _ _ _ => 0
  | .read _ _ => 0
  | .write _ _ => 0
def nests : List Stm → Nat
  | [] => 0
  | s :: r => max s.nest (nests r)
end
def Stm.kids : Stm → List Stm
  | .ifs _ a b => a ++ b
  | .loop _ _ _ b => b
  | _ => []
theorem flats_app : ∀ a b : List Stm, flats (a ++ b) = flats a ++ flats b
  | [], b => rfl
  | s :: r, b => by
    show s.flat ++ flats (r ++ b) = (s.flat ++ flats r) ++ flats b
    rw [flats_app r b, List.append_assoc]
theorem flat_kids : ∀ s : Stm, s.flat = s :: flats s.kids
  | .set _ _ => by unfold Stm.flat Stm.kids flats; rfl
  | .ifs _ a b => by unfold Stm.flat Stm.kids; rw [flats_app]
  | .loop _ _ _ b => by unfold Stm.flat Stm.kids; rfl
  | .call _ _ _ _ => by unfold Stm.flat Stm.kids flats; rfl
  | .read _ _ => by unfold Stm.flat Stm.kids flats; rfl
  | .write _ _ => by unfold Stm.flat Stm.kids flats; rfl
theorem flats_cons (s : Stm) (r : List Stm) : flats (s :: r) = s :: flats (s.kids ++ r) := by
  show s.flat ++ flats r = _
  rw [flat_kids, flats_app]; rfl
theorem flats_len : ∀ b : List Stm, b.length ≤ (flats b).length
  | [] => Nat.zero_le _
  | s :: r => by
    rw [flats_cons, flats_app]
    have := flats_len r
    simp only [List.length_cons, List.length_append]
    omega
theorem stmsD_map : ∀ b : List Stm, stmsD b = b.map Stm.d
  | [] => rfl
  | s :: r => by
    show s.d :: stmsD r = s.d :: r.map Stm.d
    rw [stmsD_map r]
theorem stmsD_app (a b : List Stm) : stmsD (a ++ b) = stmsD a ++ stmsD b := by
  rw [stmsD_map, stmsD_map, stmsD_map, List.map_append]
theorem nests_mem {b : List Stm} {s : Stm} : s ∈ b → s.nest ≤ nests b := by
  induction b with
  | nil => intro h; cases h
  | cons a r ih =>
    intro h
    show s.nest ≤ max a.nest (nests r)
    rcases List.mem_cons.mp h with rfl | h
    · exact Nat.le_max_left _ _
    · exact Nat.le_trans (ih h) (Nat.le_max_right _ _)
theorem flats_mem {b : List Stm} {s : Stm} (h : s ∈ b) : s.flat.length ≤ (flats b).length := by
  induction b with
  | nil => cases h
  | cons a r ih =>
    show s.flat.length ≤ (a.flat ++ flats r).length
    rw [List.length_append]
    rcases List.mem_cons.mp h with rfl | h
    · omega
    · have := ih h; omega
theorem Cut.but {S : Addr → Prop} {H1 H : Hp} {D : Addr} (n : H1 D = none) (b : Rd.But D H1 H) : Same (Cut S H1) (Cut (fun a => S a ∨ a = D) H) := fun a x h => by
  obtain ⟨m, e⟩ := Cut.get h
  have ne : a ≠ D := fun z => by rw [z, n] at e; cases e
  refine Cut.at ?_ (b a x ne e)
  rintro (z | z)
  · exact m z
  · exact ne z

/-! ### whether a body keeps its limits -/
mutual
def Stm.dl : Stm → Nat
  | .set _ _ => 0
  | .ifs _ a b => max (dls a) (dls b)
  | .loop _ _ _ b => dls b
  | .call _ _ _ _ => 0
  | .read _ _ => 0
  | .write _ _ => 0
def dls : List Stm → Nat
  | [] => 1
  | s :: r => max (1 + s.dl) (dls r)
end
mutual
def Stm.dk : Stm → Nat
  | .set _ _ => 0
  | .ifs _ a b => max (dks a) (dks b)
  | .loop _ _ _ b => 1 + dks b
  | .call _ _ _ _ => 0
  | .read _ _ => 0
  | .write _ _ => 0
def dks : List Stm → Nat
  | [] => 0
  | s :: r => max s.dk (dks r)
end
theorem dls_pos : ∀ b : List Stm, 1 ≤ dls b
  | [] => Nat.le_refl _
  | s :: r => Nat.le_trans (dls_pos r) (Nat.le_max_right _ _)
def mFits (b : List Stm) : Bool := decide ((dls b ≤ 8 ∧ dks b ≤ 4) ∧ (flats b).length ≤ 200)
/-! ### a body's lists of statements -/
abbrev Wt := List Stm × Nat × Nat
def fD (p : Wt) : PyData := .tuple [.list (stmsD p.1), .int (p.2.1 : Int), .int (p.2.2 : Int)]
def subs (l k : Nat) : Stm → List Wt
  | .ifs _ a b => [(a, l + 1, k), (b, l + 1, k)]
  | .loop _ _ _ b => [(b, l + 1, k + 1)]
  | _ => []
def pushes (l k : Nat) (b : List Stm) : List Wt := b.flatMap (subs l k)
def tot (ws : List Wt) : Nat := (ws.map fun p => (flats p.1).length).sum
def msr (ws : List Wt) : Nat := (ws.map fun p => 1 + 2 * (flats p.1).length).sum
theorem tot_app (a b : List Wt) : tot (a ++ b) = tot a + tot b := by unfold tot; rw [List.map_append, List.sum_append_nat]
theorem msr_app (a b : List Wt) : msr (a ++ b) = msr a + msr b := by unfold msr; rw [List.map_append, List.sum_append_nat]
theorem flats_one (s : Stm) (r : List Stm) : (flats (s :: r)).length = 1 + (flats s.kids).length + (flats r).length := by
  rw [flats_cons, flats_app, List.length_cons, List.length_append]; omega
theorem tot_subs (l k : Nat) (s : Stm) : tot (subs l k s) = (flats s.kids).length := by
  cases s with
  | ifs e a b => show (flats a).length + ((flats b).length + 0) = (flats (a ++ b)).length; rw [flats_app, List.length_append]; omega
  | loop x n e b => show (flats b).length + 0 = (flats b).length; omega
  | set p e => rfl
  | call p o op as => rfl
  | read p t => rfl
  | write t e => rfl
theorem msr_subs (l k : Nat) (s : Stm) : msr (subs l k s) ≤ 2 + 2 * (flats s.kids).length := by
  cases s with
  | ifs e a b => show (1 + 2 * (flats a).length) + ((1 + 2 * (flats b).length) + 0) ≤ 2 + 2 * (flats (a ++ b)).length; rw [flats_app, List.length_append]; omega
  | loop x n e b => show (1 + 2 * (flats b).length) + 0 ≤ 2 + 2 * (flats b).length; omega
  | set p e => exact Nat.zero_le _
  | call p o op as => exact Nat.zero_le _
  | read p t => exact Nat.zero_le _
  | write t e => exact Nat.zero_le _
theorem tot_pushes (l k : Nat) : ∀ b : List Stm, tot (pushes l k b) + b.length = (flats b).length
  | [] => rfl
  | s :: r => by
    have ih := tot_pushes l k r
    have e : pushes l k (s :: r) = subs l k s ++ pushes l k r := rfl
    rw [e, tot_app, tot_subs, flats_one, List.length_cons]
    omega
theorem msr_pushes (l k : Nat) : ∀ b : List Stm, msr (pushes l k b) ≤ 2 * (flats b).length
  | [] => Nat.zero_le _
  | s :: r => by
    have ih := msr_pushes l k r
    have e : pushes l k (s :: r) = subs l k s ++ pushes l k r := rfl
    have := msr_subs l k s
    rw [e, msr_app, flats_one]
    omega
def WtG (p : Wt) : Prop := p.2.1 + dls p.1 ≤ 9 ∧ p.2.2 + dks p.1 ≤ 4
theorem sub_g {l k : Nat} (hl : l ≤ 8) (hk : k ≤ 4) (s : Stm) : (l + 1 + s.dl ≤ 9 ∧ k + s.dk ≤ 4) ↔ ∀ p ∈ subs l k s, WtG p := by
  cases s with
  | ifs e a b =>
    have e1 : (Stm.ifs e a b).dl = max (dls a) (dls b) := rfl
    have e2 : (Stm.ifs e a b).dk = max (dks a) (dks b) := rfl
    have es : subs l k (Stm.ifs e a b) = [(a, l + 1, k), (b, l + 1, k)] := rfl
    rw [e1, e2, es]
    simp only [List.mem_cons, List.mem_nil_iff, or_false, forall_eq_or_imp, forall_eq, WtG]
    omega
  | loop x n e b =>
    have e1 : (Stm.loop x n e b).dl = dls b := rfl
    have e2 : (Stm.loop x n e b).dk = 1 + dks b := rfl
    have es : subs l k (Stm.loop x n e b) = [(b, l + 1, k + 1)] := rfl
    rw [e1, e2, es]
    simp only [List.mem_cons, List.mem_nil_iff, or_false, forall_eq, WtG]
    omega
  | set p e => exact ⟨fun _ p m => (by cases m), fun _ => ⟨by show l + 1 + 0 ≤ 9; omega, hk⟩⟩
  | call p o op as => exact ⟨fun _ p m => (by cases m), fun _ => ⟨by show l + 1 + 0 ≤ 9; omega, hk⟩⟩
  | read p t => exact ⟨fun _ p m => (by cases m), fun _ => ⟨by show l + 1 + 0 ≤ 9; omega, hk⟩⟩
  | write t e => exact ⟨fun _ p m => (by cases m), fun _ => ⟨by show l + 1 + 0 ≤ 9; omega, hk⟩⟩
theorem pushes_g {l k : Nat} (hl : l ≤ 8) (hk : k ≤ 4) : ∀ b : List Stm, WtG (b, l, k) ↔ ∀ p ∈ pushes l k b, WtG p
  | [] => ⟨fun _ p m => (by cases m), fun _ => ⟨by show l + 1 ≤ 9; omega, by show k + 0 ≤ 4; omega⟩⟩
  | s :: r => by
    have ih := pushes_g hl hk r
    have e : pushes l k (s :: r) = subs l k s ++ pushes l k r := rfl
    have sg := sub_g hl hk s
    have e1 : WtG (s :: r, l, k) ↔ (l + 1 + s.dl ≤ 9 ∧ k + s.dk ≤ 4) ∧ WtG (r, l, k) := by
      have d1 : dls (s :: r) = max (1 + s.dl) (dls r) := rfl
      have d2 : dks (s :: r) = max s.dk (dks r) := rfl
      unfold WtG
      simp only
      rw [d1, d2]
      omega
    rw [e1, ih, sg, e]
    simp only [List.mem_append]
    exact ⟨fun ⟨a, b⟩ p m => m.elim (a p) (b p), fun h => ⟨fun p m => h p (.inl m), fun p m => h p (.inr m)⟩⟩
theorem all_app {α : Type} {q : α → Prop} {a b : List α} : (∀ p ∈ a ++ b, q p) ↔ (∀ p ∈ a, q p) ∧ ∀ p ∈ b, q p := by
  simp only [List.mem_append]
  exact ⟨fun h => ⟨fun p m => h p (.inl m), fun p m => h p (.inr m)⟩, fun ⟨a, b⟩ p m => m.elim (a p) (b p)⟩
theorem same_cutF {H H' : Hp} {F : Addr} (s : Same H H') (n : H F = none) : Same H (Cut (fun a => a = F) H') := fun a x e => Cut.at (fun z => by rw [z, n] at e; cases e) (s a x e)
theorem cut_upd {H : Hp} {W : Addr} {o : HO} : Same (Cut (fun a => a = W) H) (Cut (fun a => a = W) (upd H W o)) := Cut.keep fun b x n e => by rw [upd_ne n]; exact e
section
variable {P : Program} {w : World} {K : PySem.W.Frag} {mg : Str → Option Value} {base : Heap}
theorem len_msr (ws : List Wt) : ws.length ≤ msr ws := by
  induction ws with
  | nil => exact Nat.zero_le _
  | cons a r ih => show r.length + 1 ≤ 1 + 2 * _ + msr r; omega
theorem push_ok {H8 H9 : Hp} {W p : Addr} {zs : List V} {ds : List PyData} {x : V} {b : List Stm} {l k : Nat} (hW : H8 W = some (.lst zs)) (d : DpAll K (Cut (fun a => a = W) H8) zs ds) (s : Same H8 H9) (np : H8 p = none)
    (hp : H9 p = some (.tup [x, .int (l : Int), .int (k : Int)])) (dx : Dp K (Cut (fun a => a = W) H8) x (.list (stmsD b))) :
    Same (Cut (fun a => a = W) H8) (Cut (fun a => a = W) (upd H9 W (.lst (zs ++ [.ref p])))) ∧ DpAll K (Cut (fun a => a = W) (upd H9 W (.lst (zs ++ [.ref p])))) (zs ++ [.ref p]) (ds ++ [fD (b, l, k)]) := by
  have pW : p ≠ W := fun z => by rw [z, hW] at np; cases np
  have sm : Same (Cut (fun a => a = W) H8) (Cut (fun a => a = W) (upd H9 W (.lst (zs ++ [.ref p])))) := Cut.keep fun b x n e => by rw [upd_ne n]; exact s _ _ e
  exact ⟨sm, dps_snoc (dps_same sm d) (.tup (SqT.of (Cut.at pW (by rw [upd_ne pW]; exact hp))) (.cons (dp_same sm dx) (.cons (.int _) (.cons (.int _) .nil))))⟩
def sp__fits (K : PySem.W.Frag) : Sp := fun vs H Q _ => ∃ (v : V) (b : List Stm), vs = [v] ∧ Dp K H v (.list (stmsD b)) ∧ (flats b).length ≤ 400 ∧ ∀ H', Same H H' → Q (.bl (mFits b)) H'
theorem ok__fits (T : Top P K mg) : FnOk P w K mg base CX0 1 T.a__fits T.d__fits ["body"]  (sp__fits K) := by
  refine T.F__fits.ok sc__fits (fun vs H Q E h => ?_) (fun cdv A outer s H vs Q E hr h => ?_)
  · obtain ⟨_, _, rfl, _⟩ := h
    rfl
  · obtain ⟨v, b, rfl, dv, fb, q⟩ := h
    have rg : ∀ g : Bool, g = mFits b → ∀ H', Same H H' → Q (.bl g) H' := fun g e => e ▸ q
    refine ⟨_, (pss_cons (ps_set (i := 1) sc__fits.nd rfl (by first | exact Or.inl rfl | exact Or.inr rfl) pe_int)
  (pss_cons (ps_set (i := 2) sc__fits.nd rfl (by first | exact Or.inl rfl | exact Or.inr rfl) (pe_lst (pa_cons (pe_tup (pa_cons (pv 0) (pa_cons pe_int (pa_cons pe_int pa_nil)))) pa_nil)))
  (pss_cons (ps_while PassesOwn.never (pt_truth (pv 2) (by intro _; rfl))
  (pss_cons (ps_asg (pe_bm0 PySem.F.plainAttrs_list PySem.F.slot_list_pop PySem.F.type_list_pop mt_pop (pv 2)) (pg_tup rfl (pgs_cons (pg_name (i := 3) sc__fits.nd rfl (by first | exact Or.inl rfl | exact Or.inr rfl)) (pgs_cons (pg_name (i := 4) sc__fits.nd rfl (by first | exact Or.inl rfl | exact Or.inr rfl)) (pgs_cons (pg_name (i := 5) sc__fits.nd rfl (by first | exact Or.inl rfl | exact Or.inr rfl)) pgs_nil)))))
  (pss_cons (ps_if (pw_or (pt_cmpR op_gt (pv 4) (pe_gi (by rfl) T.c_DEEPEST_LIST) (nomark _)) (pw_or1 (pt_cmpR op_gt (pv 5) (pe_gi (by rfl) T.c_DEEPEST_LOOP) (nomark _)))).pt
  (pss_one (ps_ret pe_bl))
  pss_nil)
  (pss_cons (ps_aug (i := 1) sc__fits.nd rfl (by first | exact Or.inl rfl | exact Or.inr rfl) (pe_callB call_len_seq (by rfl) T.m_len PySem.boot_len (pa_cons (pv 3) pa_nil)) ip_add)
  (pss_one (ps_for PassesOwn.never rfl (pi_list (pv 3)) (pg_name (i := 6) sc__fits.nd rfl (by first | exact Or.inl rfl | exact Or.inr rfl))
  (pss_one (ps_if (pt_cmpR op_eq (pe_ix ix_tup (pv 6) pe_int (fun _ _ => rfl)) pe_str (nomark _))
  (pss_cons (ps_expr (pe_bm PySem.F.plainAttrs_list PySem.F.slot_list_append PySem.F.type_list_append mt_append (pv 2) (pa_cons (pe_tup (pa_cons (pe_ix ix_tup (pv 6) pe_int (fun _ _ => rfl)) (pa_cons (pe_op op_add (pv 4) pe_int) (pa_cons (pv 5) pa_nil)))) pa_nil)))
  (pss_one (ps_expr (pe_bm PySem.F.plainAttrs_list PySem.F.slot_list_append PySem.F.type_list_append mt_append (pv 2) (pa_cons (pe_tup (pa_cons (pe_ix ix_tup (pv 6) pe_int (fun _ _ => rfl)) (pa_cons (pe_op op_add (pv 4) pe_int) (pa_cons (pv 5) pa_nil)))) pa_nil)))))
  (pss_one (ps_if (pt_cmpR op_eq (pe_ix ix_tup (pv 6) pe_int (fun _ _ => rfl)) pe_str (nomark _))
  (pss_one (ps_expr (pe_bm PySem.F.plainAttrs_list PySem.F.slot_list_append PySem.F.type_list_append mt_append (pv 2) (pa_cons (pe_tup (pa_cons (pe_ix ix_tup (pv 6) pe_int (fun _ _ => rfl)) (pa_cons (pe_op op_add (pv 4) pe_int) (pa_cons (pe_op op_add (pv 5) pe_int) pa_nil)))) pa_nil))))
  pss_nil))))))))))
  (pss_one (ps_ret (pe_cmpR op_le (pv 1) (pe_gi (by rfl) T.c_MOST_STATEMENTS) (nomark _))))))), ?_⟩
    rw [show ∀ a0 : V, L2.start ["body", "many", "waiting", "rows", "lists", "loops", "statement"] [a0] = [some a0, none, none, none, none, none, none] from fun _ => rfl]
    walk_at "my rn"
    intro t1 H1 n1 s1 h1
    walk_at "my rn"
    intro W H2 nW s2 hW
    have nWH : H W = none := s1.free nW
    refine ⟨fun m σ H' => ∃ (ws : List V) (wd : List Wt) (mn : Nat) (y3 y4 y5 y6 : Option V), m = msr wd ∧ σ = [some v, some (.int (mn : Int)), some (.ref W), y3, y4, y5, y6] ∧ Same H H' ∧ H' W = some (.lst ws) ∧
      DpAll K (Cut (fun a => a = W) H') ws (wd.map fD) ∧ ((∀ p ∈ wd, WtG p) ↔ (dls b ≤ 8 ∧ dks b ≤ 4)) ∧ mn + tot wd = (flats b).length ∧ msr wd ≤ 801,
      ⟨_, [.ref t1], [(b, 1, 0)], 0, none, none, none, none, rfl, rfl, s1.trans s2, hW, ?_, by simp only [List.mem_singleton, forall_eq, WtG]; omega, by show 0 + ((flats b).length + 0) = _; omega, by show 1 + 2 * (flats b).length + 0 ≤ 801; omega⟩, ?_⟩
    · have tW : t1 ≠ W := fun z => by rw [← z, h1] at nW; cases nW
      exact .cons (.tup (SqT.of (Cut.at tW (s2 _ _ h1))) (.cons (dp_same (same_cutF (s1.trans s2) nWH) dv) (.cons (.int _) (.cons (.int _) .nil)))) .nil
    rintro m σ H' ⟨ws, wd, mn, y3, y4, y5, y6, rfl, rfl, s4, hW4, dw, gw, tt, lw⟩
    walk_at "my rn"
    rcases List.eq_nil_or_concat wd with rfl | ⟨wd0, ⟨rw_, l, k⟩, rfl⟩
    · have e0 : ws = [] := List.eq_nil_of_length_eq_zero (by rw [dps_len dw]; rfl)
      subst e0
      refine ⟨false, .inl ⟨[], SqL.of hW4, rfl⟩, Rd.ifF ?_⟩
      walk_at "my rn"
      have ed : mn = (flats b).length := tt
      have gd := gw.mp fun p m => by cases m
      refine rg _ ?_ _ s4
      unfold mFits
      by_cases h2 : (flats b).length ≤ 200
      · rw [decide_eq_true (show (mn : Int) ≤ 200 by omega), decide_eq_true ⟨gd, h2⟩]
      · rw [decide_eq_false (show ¬ (mn : Int) ≤ 200 by omega), decide_eq_false (fun h => h2 h.2)]
    · rw [List.concat_eq_append] at dw gw tt lw ⊢
      rw [List.map_append] at dw
      obtain ⟨us, u, rfl, du, dt⟩ := dps_snoc' dw
      rw [all_app] at gw
      have em : msr (wd0 ++ [(rw_, l, k)]) = msr wd0 + (1 + 2 * (flats rw_).length) := by rw [msr_app]; rfl
      have et : tot (wd0 ++ [(rw_, l, k)]) = tot wd0 + (flats rw_).length := by rw [tot_app]; rfl
      rw [em]
      rw [et] at tt
      rw [em] at lw
      have lus := dps_len du
      have lwd := len_msr wd0
      rw [List.length_map] at lus
      refine ⟨true, .inl ⟨_, SqL.of hW4, by simp⟩, Rd.ifT ⟨fun σ' H' => ∃ (ws : List V) (wd : List Wt) (mn : Nat) (y3 y4 y5 y6 : Option V), msr wd < msr wd0 + (1 + 2 * (flats rw_).length) ∧ σ' = [some v, some (.int (mn : Int)), some (.ref W), y3, y4, y5, y6] ∧ Same H H' ∧ H' W = some (.lst ws) ∧
        DpAll K (Cut (fun a => a = W) H') ws (wd.map fD) ∧ ((∀ p ∈ wd, WtG p) ↔ (dls b ≤ 8 ∧ dks b ≤ 4)) ∧ mn + tot wd = (flats b).length ∧ msr wd ≤ 801, fun σ' H' ⟨ws, wd, mn, y3, y4, y5, y6, a, b⟩ => ⟨_, a, ws, wd, mn, y3, y4, y5, y6, rfl, b⟩, ?_⟩⟩
      obtain ⟨tu, ys, rfl, h3, h4⟩ := dpT dt
      obtain ⟨v1, r1, rfl, a1, g1⟩ := dp1 h4
      obtain ⟨v2, r2, rfl, a2, g2⟩ := dp1 g1
      obtain ⟨v3, r3, rfl, a3, g3⟩ := dp1 g2
      cases dp0 g3; cases dpI a2; cases dpI a3
      obtain ⟨R, rs, rfl, hR, dr⟩ := dpL a1
      have lr : rs.length = rw_.length := by rw [dps_len dr, stmsD_map, List.length_map]
      have lf := flats_len rw_
      walk_at "my rn"
      refine Rd.popI hW4 (last_at' _ _) ?_
      rw [List.dropLast_concat]
      obtain ⟨H5, e5⟩ : ∃ H5, H5 = upd H' W (.lst us) := ⟨_, rfl⟩
      have hW5 : H5 W = some (.lst us) := by rw [e5]; exact upd_same
      have s5 : Same H H5 := fun a o z => by rw [e5, upd_ne (fun y => by rw [y, nWH] at z; cases z)]; exact s4 a o z
      have c5 : Same (Cut (fun a => a = W) H') (Cut (fun a => a = W) H5) := by rw [e5]; exact cut_upd
      have h35 := Cut.sub.seqT (c5.seqT h3)
      rw [← e5]
      walk_at "my rn"
      have out : (¬ l ≤ 8 ∨ ¬ k ≤ 4) → false = mFits b := fun h => by
        have n : ¬ (dls b ≤ 8 ∧ dks b ≤ 4) := fun z => by
          have := (gw.mpr z).2 (rw_, l, k) (List.mem_singleton.mpr rfl)
          unfold WtG at this
          simp only at this
          have := dls_pos rw_
          omega
        exact (decide_eq_false fun h => n h.1).symm
      by_cases ok1 : l ≤ 8
      case neg =>
        rw [decide_eq_true (show (8 : Int) < (l : Int) by omega)]
        refine Rd.ifT (Rd.ifT ?_)
        walk_at "my rn"
        exact rg _ (out (.inl ok1)) _ s5
      rw [decide_eq_false (show ¬ (8 : Int) < (l : Int) by omega)]
      refine Rd.ifF ?_
      walk_at "my rn"
      by_cases ok2 : k ≤ 4
      case neg =>
        rw [decide_eq_true (show (4 : Int) < (k : Int) by omega)]
        refine Rd.ifT ?_
        walk_at "my rn"
        exact rg _ (out (.inr ok2)) _ s5
      rw [decide_eq_false (show ¬ (4 : Int) < (k : Int) by omega)]
      refine Rd.ifF ?_
      walk_at "my rn"
      have hR5 := c5.seq hR
      refine ⟨R, _, rfl, .inl (Cut.sub.seq hR5), ?_⟩
      walk_at "my rn"
      refine ⟨⟨_, Cut.sub.seq hR5⟩, ?_⟩
      refine for_it (walk_list (xs := rs)) (fun i σ H' => ∃ (zs : List V) (y6 : Option V), σ = [some v, some (.int ((mn : Int) + (rs.length : Int))), some (.ref W), some (.ref R), some (.int (l : Int)), some (.int (k : Int)), y6] ∧ H' W = some (.lst zs) ∧
        DpAll K (Cut (fun a => a = W) H') zs ((wd0 ++ pushes l k (rw_.take i)).map fD) ∧ Same H H' ∧ Same (Cut (fun a => a = W) H5) (Cut (fun a => a = W) H') ∧ zs.length ≤ us.length + 2 * i) ⟨us, _, rfl, hW5, by simpa [pushes] using dps_same c5 du, s5, Same.refl _, by omega⟩ (fun i σ H' _ ⟨_, _, _, _, _, _, c, _⟩ => Cut.sub.seq (c.seq hR5)) ?_ ?_
      · rintro i x0 σ Ho H8 hi ⟨zs, y6', rfl, hW8, d8, s8, c8, lz⟩ ⟨rfl, hx0⟩
        obtain ⟨d0, hd0, dx0⟩ := dp_at' dr hx0
        obtain ⟨st, es, rfl⟩ : ∃ s, rw_[i]? = some s ∧ s.d = d0 := by
          have hd0 : (stmsD rw_)[i]? = some d0 := hd0
          rw [stmsD_map, List.getElem?_map] at hd0
          cases z : rw_[i]? with
          | none => rw [z] at hd0; cases hd0
          | some s => rw [z] at hd0; exact ⟨s, rfl, Option.some.inj hd0⟩
        have dx := dp_same (c5.trans c8) dx0
        have et' : pushes l k (rw_.take (i + 1)) = pushes l k (rw_.take i) ++ subs l k st := by
          unfold pushes
          rw [List.take_add_one, es, List.flatMap_append]
          show _ ++ (subs l k st ++ []) = _
          rw [List.append_nil]
        rw [et', ← List.append_assoc, List.map_append]
        cases st with
        | ifs e a b' =>
          obtain ⟨t, ys, rfl, h3, h4⟩ := dpT dx
          obtain ⟨v1, r1, rfl, a1, g1⟩ := dp1 h4
          obtain ⟨v2, r2, rfl, a2, g2⟩ := dp1 g1
          obtain ⟨v3, r3, rfl, a3, g3⟩ := dp1 g2
          obtain ⟨v4, r4, rfl, a4, g4⟩ := dp1 g3
          rw [dp0 g4, dpS a1] at h3
          have h3c := h3
          have h3 := Cut.sub.seqT h3
          walk_at "my rn"
          refine Rd.ifD (fun _ => ?_) fun z => absurd rfl z
          walk_at "my rn"
          intro p H9 np s9 hp
          walk_at "my rn"
          have hW9 := s9 _ _ hW8
          refine Rd.app hW9 (Rd.szl (by omega)) ?_
          obtain ⟨sm, d9⟩ := push_ok (l := l + 1) (k := k) hW8 d8 s9 np hp a3
          obtain ⟨H10, e10⟩ : ∃ H10, H10 = upd H9 W (.lst (zs ++ [.ref p])) := ⟨_, rfl⟩
          rw [← e10] at sm d9 ⊢
          have hW10 : H10 W = some (.lst (zs ++ [.ref p])) := by rw [e10]; exact upd_same
          have s10 : Same H H10 := fun a o z => by rw [e10, upd_ne (fun y => by rw [y, nWH] at z; cases z)]; exact s9 _ _ (s8 a o z)
          have h310 := Cut.sub.seqT (sm.seqT h3c)
          walk_at "my rn"
          intro p2 H11 np2 s11 hp2
          walk_at "my rn"
          refine Rd.app (s11 _ _ hW10) (Rd.szl (by simp; omega)) ?_
          obtain ⟨sm2, d11⟩ := push_ok (l := l + 1) (k := k) hW10 d9 s11 np2 hp2 (dp_same sm a4)
          refine ⟨_, _, rfl, upd_same, ?_, fun a o z => by rw [upd_ne (fun y => by rw [y, nWH] at z; cases z)]; exact s11 _ _ (s10 a o z), c8.trans (sm.trans sm2), by simp; omega⟩
          rw [List.append_assoc (List.map fD _)] at d11
          exact d11
        | loop x n e b' =>
          obtain ⟨t, ys, rfl, h3, h4⟩ := dpT dx
          obtain ⟨v1, r1, rfl, a1, g1⟩ := dp1 h4
          obtain ⟨v2, r2, rfl, a2, g2⟩ := dp1 g1
          obtain ⟨v3, r3, rfl, a3, g3⟩ := dp1 g2
          obtain ⟨v4, r4, rfl, a4, g4⟩ := dp1 g3
          obtain ⟨v5, r5, rfl, a5, g5⟩ := dp1 g4
          rw [dp0 g5, dpS a1] at h3
          have h3 := Cut.sub.seqT h3
          walk_at "my rn"
          refine Rd.ifD (fun z => absurd (V.str.inj z) (by decide +kernel)) fun _ => ?_
          walk_at "my rn"
          refine Rd.ifD (fun _ => ?_) fun z => absurd rfl z
          walk_at "my rn"
          intro p H9 np s9 hp
          walk_at "my rn"
          have hW9 := s9 _ _ hW8
          refine Rd.app hW9 (Rd.szl (by omega)) ?_
          obtain ⟨sm, d9⟩ := push_ok (l := l + 1) (k := k + 1) hW8 d8 s9 np hp a5
          refine ⟨_, _, rfl, upd_same, d9, fun a o z => by rw [upd_ne (fun y => by rw [y, nWH] at z; cases z)]; exact s9 _ _ (s8 a o z), c8.trans sm, by simp; omega⟩
        | set p e =>
          obtain ⟨t, ys, rfl, h3, h4⟩ := dpT dx
          obtain ⟨v1, r1, rfl, a1, g1⟩ := dp1 h4
          obtain ⟨v2, r2, rfl, a2, g2⟩ := dp1 g1
          obtain ⟨v3, r3, rfl, a3, g3⟩ := dp1 g2
          rw [dp0 g3, dpS a1] at h3
          have h3 := Cut.sub.seqT h3
          walk_at "my rn"
          refine Rd.ifD (fun z => absurd (V.str.inj z) (by decide +kernel)) fun _ => ?_
          walk_at "my rn"
          refine Rd.ifD (fun z => absurd (V.str.inj z) (by decide +kernel)) fun _ => ?_
          exact ⟨_, _, rfl, hW8, by rw [show subs l k _ = [] from rfl, List.map_nil, List.append_nil]; exact d8, s8, c8, by omega⟩
        | call p o op as =>
          obtain ⟨t, ys, rfl, h3, h4⟩ := dpT dx
          obtain ⟨v1, r1, rfl, a1, g1⟩ := dp1 h4
          obtain ⟨v2, r2, rfl, a2, g2⟩ := dp1 g1
          obtain ⟨v3, r3, rfl, a3, g3⟩ := dp1 g2
          obtain ⟨v4, r4, rfl, a4, g4⟩ := dp1 g3
          obtain ⟨v5, r5, rfl, a5, g5⟩ := dp1 g4
          rw [dp0 g5, dpS a1] at h3
          have h3 := Cut.sub.seqT h3
          walk_at "my rn"
          refine Rd.ifD (fun z => absurd (V.str.inj z) (by decide +kernel)) fun _ => ?_
          walk_at "my rn"
          refine Rd.ifD (fun z => absurd (V.str.inj z) (by decide +kernel)) fun _ => ?_
          exact ⟨_, _, rfl, hW8, by rw [show subs l k _ = [] from rfl, List.map_nil, List.append_nil]; exact d8, s8, c8, by omega⟩
        | read p nm =>
          obtain ⟨t, ys, rfl, h3, h4⟩ := dpT dx
          obtain ⟨v1, r1, rfl, a1, g1⟩ := dp1 h4
          obtain ⟨v2, r2, rfl, a2, g2⟩ := dp1 g1
          obtain ⟨v3, r3, rfl, a3, g3⟩ := dp1 g2
          rw [dp0 g3, dpS a1] at h3
          have h3 := Cut.sub.seqT h3
          walk_at "my rn"
          refine Rd.ifD (fun z => absurd (V.str.inj z) (by decide +kernel)) fun _ => ?_
          walk_at "my rn"
          refine Rd.ifD (fun z => absurd (V.str.inj z) (by decide +kernel)) fun _ => ?_
          exact ⟨_, _, rfl, hW8, by rw [show subs l k _ = [] from rfl, List.map_nil, List.append_nil]; exact d8, s8, c8, by omega⟩
        | write nm e =>
          obtain ⟨t, ys, rfl, h3, h4⟩ := dpT dx
          obtain ⟨v1, r1, rfl, a1, g1⟩ := dp1 h4
          obtain ⟨v2, r2, rfl, a2, g2⟩ := dp1 g1
          obtain ⟨v3, r3, rfl, a3, g3⟩ := dp1 g2
          rw [dp0 g3, dpS a1] at h3
          have h3 := Cut.sub.seqT h3
          walk_at "my rn"
          refine Rd.ifD (fun z => absurd (V.str.inj z) (by decide +kernel)) fun _ => ?_
          walk_at "my rn"
          refine Rd.ifD (fun z => absurd (V.str.inj z) (by decide +kernel)) fun _ => ?_
          exact ⟨_, _, rfl, hW8, by rw [show subs l k _ = [] from rfl, List.map_nil, List.append_nil]; exact d8, s8, c8, by omega⟩
      · rintro σ H8 ⟨zs, y6', rfl, hW8, d8, s8, c8, lz⟩
        walk_at "my rn"
        rw [List.take_of_length_le (by omega)] at d8
        have m1 := msr_pushes l k rw_
        have t1 := tot_pushes l k rw_
        refine ⟨zs, wd0 ++ pushes l k rw_, mn + rw_.length, _, _, _, _, by rw [msr_app]; omega, by rw [lr]; rfl, s8, hW8, d8, ?_, by rw [tot_app]; omega, by rw [msr_app]; omega⟩
        rw [all_app, ← gw, ← pushes_g ok1 ok2]
        simp only [List.mem_singleton, forall_eq]
end


set_option Elab.async false
set_option linter.all false
set_option maxRecDepth 100000
set_option maxHeartbeats 1000000
--@@rec _check_statements _check_statement

--@@guards

/-! ### statements: the model -/
def firsts {α : Type} (f : α → Option Str) : List α → Option Str
  | [] => none
  | a :: r => (f a).or (firsts f r)
theorem firsts_app {α : Type} (f : α → Option Str) : ∀ a b : List α, firsts f (a ++ b) = (firsts f a).or (firsts f b)
  | [], b => by show firsts f b = none.or (firsts f b); simp
  | x :: r, b => by
    show (f x).or (firsts f (r ++ b)) = ((f x).or (firsts f r)).or (firsts f b)
    rw [firsts_app f r b, Option.or_assoc]
theorem firsts_step {α : Type} {f : α → Option Str} {xs : List α} {i : Nat} {a : α} (h : firsts f (xs.take i) = none) (ha : xs[i]? = some a) : firsts f (xs.take (i + 1)) = f a := by
  rw [List.take_add_one, ha, firsts_app, h]
  show none.or ((f a).or none) = f a
  simp
theorem firsts_err {α : Type} {f : α → Option Str} {xs : List α} {i : Nat} {a : α} {r : Str} (h : firsts f (xs.take i) = none) (ha : xs[i]? = some a) (e : f a = some r) : firsts f xs = some r := by
  rw [← List.take_append_drop (i + 1) xs, firsts_app, firsts_step h ha, e]
  rfl
def exB : Ex → Bool
  | .num n => decide (0 ≤ n) && decide (n < 4294967296)
  | .cell _ => true
  | .at _ i => exB i
  | .un k a => decide (k ∈ UNS) && exB a
  | .bin k a b => decide (k ∈ BINS) && (exB a && exB b)
def Ex.names : Ex → List Str
  | .num _ => []
  | .cell s => [s]
  | .at s i => s :: i.names
  | .un _ a => a.names
  | .bin _ a b => a.names ++ b.names
def gN (ns : List Str) : Env := ⟨ns.map (fun s => (s, 0)) ++ ns.map (fun s => (s, 1)), [], [], [], 1⟩
theorem exw_n {ns : List Str} : ∀ {x : Ex}, exB x = true → (∀ s ∈ x.names, s ∈ ns) → ExW (gN ns) x := by
  intro x
  induction x with
  | num n => intro h _; unfold exB at h; rw [Bool.and_eq_true] at h; exact ⟨of_decide_eq_true h.1, of_decide_eq_true h.2⟩
  | cell s => intro _ m; exact .inl (List.mem_append_left _ (List.mem_map.mpr ⟨s, m s (List.mem_singleton.mpr rfl), rfl⟩))
  | «at» s i ih =>
    intro h m
    exact ⟨⟨1, by decide, List.mem_append_right _ (List.mem_map.mpr ⟨s, m s List.mem_cons_self, rfl⟩)⟩, ih h fun z mz => m z (List.mem_cons_of_mem _ mz)⟩
  | un k a ih =>
    intro h m
    unfold exB at h
    rw [Bool.and_eq_true] at h
    exact ⟨of_decide_eq_true h.1, ih h.2 m⟩
  | bin k a b iha ihb =>
    intro h m
    unfold exB at h
    rw [Bool.and_eq_true, Bool.and_eq_true] at h
    exact ⟨of_decide_eq_true h.1, iha h.2.1 fun z mz => m z (List.mem_append_left _ mz), ihb h.2.2 fun z mz => m z (List.mem_append_right _ mz)⟩
theorem exw_of {x : Ex} (h : exB x = true) : ∃ g, ExW g x := ⟨_, exw_n h fun _ m => m⟩
def eB (x : Ex) : Bool := exB x && decide (x.depth ≤ 8)
theorem eb_of {x : Ex} (h : eB x = true) : (∃ g, ExW g x) ∧ x.depth ≤ 8 := by
  unfold eB at h
  rw [Bool.and_eq_true] at h
  exact ⟨exw_of h.1, of_decide_eq_true h.2⟩
def plB : Pl → Bool
  | .cell _ => true
  | .at _ i => eB i
def oB {α : Type} (f : α → Bool) : Option α → Bool
  | none => true
  | some x => f x
mutual
def Stm.ok : Stm → Bool
  | .set p e => plB p && eB e
  | .ifs e a b => eB e && (stmsB a && stmsB b)
  | .loop x _ e b => decide (x.length ≤ 10000) && (oB eB e && stmsB b)
  | .call p _ _ as => oB plB p && (as.all eB && decide (as.length ≤ 900))
  | .read p t => plB p && PyData.strOk t
  | .write t e => PyData.strOk t && eB e
def stmsB : List Stm → Bool
  | [] => true
  | s :: r => s.ok && stmsB r
end
theorem stmsb_mem : ∀ {b : List Stm} {s : Stm}, stmsB b = true → s ∈ b → s.ok = true
  | a :: r, s, h, m => by
    have h : (a.ok && stmsB r) = true := h
    rw [Bool.and_eq_true] at h
    rcases List.mem_cons.mp m with rfl | m
    · exact h.1
    · exact stmsb_mem h.2 m
theorem idx_ok {p : Option Pl} (h : oB plB p = true) : ∀ q ∈ idxOf p, eB q.1 = true := fun q m => by
  cases p with
  | none => cases m
  | some p =>
    cases p with
    | cell s => cases m
    | «at» s i => cases (List.mem_singleton.mp m); exact h
theorem idx_len (p : Option Pl) : (idxOf p).length ≤ 1 := by
  cases p with
  | none => exact Nat.zero_le _
  | some p => cases p <;> simp [idxOf]
theorem exprs_ok {s : Stm} (h : s.ok = true) : (∀ q ∈ exprsOf s, eB q.1 = true) ∧ (exprsOf s).length ≤ 1000 := by
  cases s with
  | set p e =>
    unfold Stm.ok at h
    rw [Bool.and_eq_true] at h
    refine ⟨fun q m => ?_, ?_⟩
    · rcases List.mem_cons.mp m with rfl | m
      · exact h.2
      · exact idx_ok (p := some p) h.1 q m
    · show (idxOf (some p)).length + 1 ≤ 1000
      have := idx_len (some p)
      omega
  | ifs e a b =>
    unfold Stm.ok at h
    rw [Bool.and_eq_true] at h
    exact ⟨fun q m => by rw [List.mem_singleton.mp m]; exact h.1, by show 1 ≤ 1000; decide⟩
  | loop x k e b =>
    unfold Stm.ok at h
    rw [Bool.and_eq_true, Bool.and_eq_true] at h
    cases e with
    | none => exact ⟨fun q m => (by cases m), Nat.zero_le _⟩
    | some e => exact ⟨fun q m => by rw [List.mem_singleton.mp m]; exact h.2.1, by show 1 ≤ 1000; decide⟩
  | call p o op as =>
    unfold Stm.ok at h
    rw [Bool.and_eq_true, Bool.and_eq_true] at h
    refine ⟨fun q m => ?_, ?_⟩
    · rcases List.mem_append.mp m with m | m
      · obtain ⟨e, me, rfl⟩ := List.mem_map.mp m
        exact List.all_eq_true.mp h.2.1 e me
      · exact idx_ok h.1 q m
    · show (as.map (fun e => (e, (4 : Int))) ++ idxOf p).length ≤ 1000
      have := idx_len p
      have := of_decide_eq_true h.2.2
      rw [List.length_append, List.length_map]
      omega
  | read p t =>
    unfold Stm.ok at h
    rw [Bool.and_eq_true] at h
    exact ⟨idx_ok (p := some p) h.1, Nat.le_trans (idx_len (some p)) (by decide)⟩
  | write t e =>
    unfold Stm.ok at h
    rw [Bool.and_eq_true] at h
    exact ⟨fun q m => by rw [List.mem_singleton.mp m]; exact h.2, by show 1 ≤ 1000; decide⟩
def mEx (m : List (Str × Int)) (p : Ex × Int) : Option Str := mExpr m p.1 p.2
mutual
def mStm (obs : List ObT) (ps : List (Str × Str)) (own : Int) : Stm → List (Str × Int) → Option Str
  | .set p _, m => mPlace m (some p)
  | .ifs _ a b, m => (mStms obs ps own a m).or (mStms obs ps own b m)
  | .loop x k _ b, m => if 1 ≤ k ∧ k ≤ 64 then (match mWith x 2 m with | .ok m' => mStms obs ps own b m' | .error r => some r) else some "size"
  | .call p o op as, m => (mPlace m p).or (mCall obs own o op as.length)
  | .read p t, m => (mPlace m (some p)).or (mPort ps own "in" t)
  | .write t _, _ => mPort ps own "out" t
def mStms (obs : List ObT) (ps : List (Str × Str)) (own : Int) : List Stm → List (Str × Int) → Option Str
  | [], _ => none
  | s :: r, m => ((firsts (mEx m) (exprsOf s)).or (mStm obs ps own s m)).or (mStms obs ps own r m)
end
def mOne (obs : List ObT) (ps : List (Str × Str)) (own : Int) (m : List (Str × Int)) (s : Stm) : Option Str := (firsts (mEx m) (exprsOf s)).or (mStm obs ps own s m)
theorem mStms_first (obs : List ObT) (ps : List (Str × Str)) (own : Int) (m : List (Str × Int)) : ∀ b : List Stm, mStms obs ps own b m = firsts (mOne obs ps own m) b
  | [] => rfl
  | s :: r => by
    show ((firsts (mEx m) (exprsOf s)).or (mStm obs ps own s m)).or (mStms obs ps own r m) = _
    rw [mStms_first obs ps own m r]
    rfl
theorem dls_mem {b : List Stm} {s : Stm} : s ∈ b → 1 + s.dl ≤ dls b := by
  induction b with
  | nil => intro h; cases h
  | cons a r ih =>
    intro h
    show 1 + s.dl ≤ max (1 + a.dl) (dls r)
    rcases List.mem_cons.mp h with rfl | h
    · exact Nat.le_max_left _ _
    · exact Nat.le_trans (ih h) (Nat.le_max_right _ _)
/-- the program as it lies in the heap -/
structure PgI (K : PySem.W.Frag) (H : Hp) (pr : Addr) (obs : List ObT) (ps : List (Str × Str)) : Prop where
  pr : ∃ v0 v1 v2 v3 rest, SqT K H pr (v0 :: v1 :: v2 :: v3 :: rest) ∧ Dp K H v2 (.list (ps.map portD)) ∧ Dp K H v3 (.list (obs.map ObT.d))
  lo : obs.length < 1000
  lp : ∀ o ∈ obs, o.ops.length < 1000
  so : ∀ q ∈ ps, PyData.strOk q.1 = true ∧ PyData.strOk q.2 = true
theorem PgI.same {K : PySem.W.Frag} {H H' : Hp} {pr : Addr} {obs : List ObT} {ps : List (Str × Str)} (h : PgI K H pr obs ps) (s : Same H H') : PgI K H' pr obs ps := by
  obtain ⟨⟨v0, v1, v2, v3, rest, a, b, c⟩, d, e, f⟩ := h
  exact ⟨⟨v0, v1, v2, v3, rest, s.seqT a, dp_same s b, dp_same s c⟩, d, e, f⟩
theorem Res.same {C : Addr} {r : Option Str} {H H1 : Hp} {Q : VK} {E : XK} (h : Res C r H Q E) (s : Same H H1) : Res C r H1 Q E := ⟨fun e H' s1 => h.1 e H' (s.trans s1), fun z e => (h.2 z e).same s⟩
section
variable {P : Program} {w : World} {K : PySem.W.Frag} {mg : Str → Option Value} {base : Heap}
def sp__check_statements (K : PySem.W.Frag) (C : Addr) (n : Nat) : Sp := fun vs H Q E => ∃ (pr T_ : Addr) (own : Int) (v : V) (b : List Stm) (m : List (Str × Int)) (obs : List ObT) (ps : List (Str × Str)), vs = [.ref pr, .int own, v, .ref T_] ∧ Dp K H v (.list (stmsD b)) ∧ dls b ≤ n + 1 ∧ stmsB b = true ∧ PgI K H pr obs ps ∧
  H T_ = some (DSI m) ∧ m.length + n ≤ 490 ∧ -1 ≤ own ∧ Res C (mStms obs ps own b m) H Q E
def sp__check_statement (K : PySem.W.Frag) (C : Addr) (n : Nat) : Sp := fun vs H Q E => ∃ (pr T_ : Addr) (own : Int) (v : V) (x : Stm) (m : List (Str × Int)) (obs : List ObT) (ps : List (Str × Str)), vs = [.ref pr, .int own, v, .ref T_] ∧ Dp K H v x.d ∧ x.dl ≤ n ∧ x.ok = true ∧ PgI K H pr obs ps ∧
  H T_ = some (DSI m) ∧ m.length + n ≤ 490 ∧ -1 ≤ own ∧ Res C (mStm obs ps own x m) H Q E
theorem step__check_statements (T : Top P K mg) {d n : Nat} (hd : 19 ≤ 3 + d) (ihS : Top P K mg → FnOk P w K mg base (L2.CX P w) (3 + d) T.a__check_statement T.d__check_statement ["program", "own", "statement", "scope"] (sp__check_statement K T.C_RuleError n)) :
    FnOk P w K mg base (L2.CX P w) (3 + d + 1) T.a__check_statements T.d__check_statements ["program", "own", "rows", "scope"] (sp__check_statements K T.C_RuleError n) := by
  refine T.F__check_statements.okX sc__check_statements (fun vs H Q E h => ?_) (fun cdv A outer s H vs Q E hr h => ?_)
  · obtain ⟨_, _, _, _, _, _, _, _, rfl, _⟩ := h
    rfl
  · obtain ⟨pr, T_, own, v, b, m, obs, ps, rfl, dv, nb, bok, pg, ht, ml, ow, q, qe⟩ := h
    refine ⟨_, (pss_one (ps_for (passes_of rfl) rfl (pi_list (pv 2)) (pg_name (i := 4) sc__check_statements.nd rfl (by first | exact Or.inl rfl | exact Or.inr rfl))
  (pss_cons (ps_for (passes_of rfl) rfl (pi_list (pe_call (ok__expressions T) (hr.mono (by show _ ≤ 3 + d; omega)) (by rfl) T.g__expressions T.F__expressions.kp T.b__expressions .nil pass0 (pa_cons (pv 4) pa_nil))) (pg_tup rfl (pgs_cons (pg_name (i := 5) sc__check_statements.nd rfl (by first | exact Or.inl rfl | exact Or.inr rfl)) (pgs_cons (pg_name (i := 6) sc__check_statements.nd rfl (by first | exact Or.inl rfl | exact Or.inr rfl)) pgs_nil)))
  (pss_one (ps_expr (pe_callS (ok__check_expression T) (hr.mono (by show _ ≤ 3 + d; omega)) (by rfl) T.g__check_expression T.F__check_expression.kp T.b__check_expression (fun σ => passAt (takes_of rfl rfl rfl rfl) σ) (pa_cons (pv 5) (pa_cons (pv 6) (pa_cons (pv 3) pa_nil)))))))
  (pss_one (ps_expr (pe_callS (ihS T) (hr.mono (by show _ ≤ 3 + d; omega)) (by rfl) T.g__check_statement T.F__check_statement.kp T.b__check_statement (fun σ => passAt (takes_of rfl rfl rfl rfl) σ) (pa_cons (pv 0) (pa_cons (pv 1) (pa_cons (pv 4) (pa_cons (pv 3) pa_nil)))))))))), ?_⟩
    obtain ⟨t, xs, rfl, hx, ha⟩ := dpL dv
    have lx : xs.length = b.length := by rw [dps_len ha, stmsD_map, List.length_map]
    rw [mStms_first] at q qe
    rw [show ∀ a0 a1 a2 a3 : V, L2.start ["program", "own", "rows", "scope", "statement", "e", "deepest"] [a0, a1, a2, a3] = [some a0, some a1, some a2, some a3, none, none, none] from fun _ _ _ _ => rfl]
    walk_at "my rn"
    refine for_it (walk_list (xs := xs)) (fun i σ H' => ∃ (y4 y5 y6 : Option V), σ = [some (.ref pr), some (.int own), some (.ref t), some (.ref T_), y4, y5, y6] ∧ Same H H' ∧ firsts (mOne obs ps own m) (b.take i) = none) ⟨none, none, none, rfl, Same.refl _, rfl⟩ (fun i σ H' _ ⟨_, _, _, _, s, _⟩ => s.seq hx) ?_ ?_
    · rintro i x0 σ Ho H1 hi ⟨y4, y5, y6, rfl, s1, al⟩ ⟨rfl, hx0⟩
      obtain ⟨d0, hd0, dx0⟩ := dp_at' ha hx0
      obtain ⟨st, es, rfl⟩ : ∃ s, b[i]? = some s ∧ s.d = d0 := by
        rw [stmsD_map, List.getElem?_map] at hd0
        cases z : b[i]? with
        | none => rw [z] at hd0; cases hd0
        | some s => rw [z] at hd0; exact ⟨s, rfl, Option.some.inj hd0⟩
      have ms := List.mem_of_getElem? es
      have sok := stmsb_mem bok ms
      obtain ⟨ek, el⟩ := exprs_ok sok
      have sdl := dls_mem ms
      have dx1 := dp_same s1 dx0
      have stp := firsts_step al es
      have err : ∀ r, mOne obs ps own m st = some r → RuleOut T.C_RuleError r H1 E := fun r e => (qe r (firsts_err al es e)).same s1
      unfold mOne at stp err
      walk_at "my rn"
      refine ⟨x0, st, rfl, dx1, el, fun L us H2 s2 hL xu => ?_⟩
      have s02 := s1.trans s2
      walk_at "my rn"
      refine for_it (walk_list (xs := us)) (fun j σ H' => ∃ (y5 y6 : Option V), σ = [some (.ref pr), some (.int own), some (.ref t), some (.ref T_), some x0, y5, y6] ∧ Same H2 H' ∧ firsts (mEx m) ((exprsOf st).take j) = none) ⟨_, _, rfl, Same.refl _, rfl⟩ (fun j σ H' _ ⟨_, _, _, s, _⟩ => SqL.of (s _ _ hL)) ?_ ?_
      · rintro j u σ Ho2 H3 hj ⟨y5, y6, rfl, s3, al2⟩ ⟨rfl, hu⟩
        obtain ⟨d2, hd2, dx2⟩ := dp_at' xu hu
        obtain ⟨pe, epe, rfl⟩ : ∃ s, (exprsOf st)[j]? = some s ∧ prD s = d2 := by
          rw [List.getElem?_map] at hd2
          cases z : (exprsOf st)[j]? with
          | none => rw [z] at hd2; cases hd2
          | some s => rw [z] at hd2; exact ⟨s, rfl, Option.some.inj hd2⟩
        obtain ⟨t2, zs, rfl, ht2, dzs⟩ := dpT (dp_same s3 dx2)
        obtain ⟨u1, r1, rfl, b1, h1⟩ := dp1 dzs
        obtain ⟨u2, r2, rfl, b2, h2⟩ := dp1 h1
        cases dp0 h2; cases dpI b2
        have s03 := s02.trans s3
        obtain ⟨⟨g, we⟩, w8⟩ := eb_of (ek pe (List.mem_of_getElem? epe))
        have stp2 := firsts_step al2 epe
        walk_at "my rn"
        refine ⟨g, u1, pe.1, pe.2, T_, m, rfl, b1, we, w8, s03 _ _ ht, fun e0 H4 s4 => ?_, fun z e0 => ?_⟩
        · exact ⟨_, _, rfl, s3.trans s4, stp2.trans e0⟩
        · refine (err z ?_).same (s2.trans s3)
          rw [firsts_err al2 epe e0]
          rfl
      · rintro σ H3 ⟨y5, y6, rfl, s3, al2⟩
        have s03 := s02.trans s3
        have lus : us.length = (exprsOf st).length := by rw [dps_len xu, List.length_map]
        rw [List.take_of_length_le (by omega)] at al2
        rw [al2, Option.none_or] at stp
        walk_at "my rn"
        refine ⟨pr, T_, own, x0, st, m, obs, ps, rfl, dp_same s03 dx0, by omega, sok, pg.same s03, s03 _ _ ht, ml, ow, fun e0 H4 s4 => ?_, fun z e0 => ?_⟩
        · exact ⟨_, _, _, rfl, s03.trans s4, stp.trans e0⟩
        · refine (err z ?_).same (s2.trans s3)
          rw [al2, Option.none_or]
          exact e0
    · rintro σ H1 ⟨y4, y5, y6, rfl, s1, al⟩
      rw [List.take_of_length_le (by omega)] at al
      walk_at "my rn"
      exact q al _ s1
theorem step__check_statement (T : Top P K mg) {d n : Nat} {spB : Sp} (hd : 19 ≤ 3 + d) (ihB : Top P K mg → FnOk P w K mg base (L2.CX P w) (3 + d) T.a__check_statements T.d__check_statements ["program", "own", "rows", "scope"] spB) (imp : ∀ (n' : Nat) vs H Q E, n = n' + 1 → sp__check_statements K T.C_RuleError n' vs H Q E → spB vs H Q E) :
    FnOk P w K mg base (L2.CX P w) (3 + d + 1) T.a__check_statement T.d__check_statement ["program", "own", "statement", "scope"] (sp__check_statement K T.C_RuleError n) := by
  refine T.F__check_statement.okX sc__check_statement (fun vs H Q E h => ?_) (fun cdv A outer s H vs Q E hr h => ?_)
  · obtain ⟨_, _, _, _, _, _, _, _, rfl, _⟩ := h
    rfl
  · obtain ⟨pr, T_, own, v, x, m, obs, ps, rfl, dv, sd, sok, pg, ht, ml, ow, q, qe⟩ := h
    refine ⟨_, (pss_one (ps_matchQ rfl (pv 2)
  (PCq.seq (PMs.txt (PMs.cap (i := 4) sc__check_statement.nd rfl (by first | exact Or.inl rfl | exact Or.inr rfl) (by first | exact Or.inl rfl | exact Or.inr rfl) (PMs.any PMs.nil))) (pss_one (ps_expr (pe_callS (ok__check_place T) (hr.mono (by show _ ≤ 3 + d; omega)) (by rfl) T.g__check_place T.F__check_place.kp T.b__check_place (fun σ => passAt (takes_of rfl rfl rfl rfl) σ) (pa_cons (pv 4) (pa_cons (pv 3) pa_nil)))))
  (PCq.seq (PMs.txt (PMs.any (PMs.cap (i := 5) sc__check_statement.nd rfl (by first | exact Or.inl rfl | exact Or.inr rfl) (by first | exact Or.inl rfl | exact Or.inr rfl) (PMs.cap (i := 6) sc__check_statement.nd rfl (by first | exact Or.inl rfl | exact Or.inr rfl) (by first | exact Or.inl rfl | exact Or.inr rfl) PMs.nil)))) (pss_cons (ps_expr (pe_callS (ihB T) (hr.mono (by show _ ≤ 3 + d; omega)) (by rfl) T.g__check_statements T.F__check_statements.kp T.b__check_statements (fun σ => passAt (takes_of rfl rfl rfl rfl) σ) (pa_cons (pv 0) (pa_cons (pv 1) (pa_cons (pv 5) (pa_cons (pv 3) pa_nil))))))
  (pss_one (ps_expr (pe_callS (ihB T) (hr.mono (by show _ ≤ 3 + d; omega)) (by rfl) T.g__check_statements T.F__check_statements.kp T.b__check_statements (fun σ => passAt (takes_of rfl rfl rfl rfl) σ) (pa_cons (pv 0) (pa_cons (pv 1) (pa_cons (pv 6) (pa_cons (pv 3) pa_nil))))))))
  (PCq.seq (PMs.txt (PMs.cap (i := 7) sc__check_statement.nd rfl (by first | exact Or.inl rfl | exact Or.inr rfl) (by first | exact Or.inl rfl | exact Or.inr rfl) (PMs.cap (i := 8) sc__check_statement.nd rfl (by first | exact Or.inl rfl | exact Or.inr rfl) (by first | exact Or.inl rfl | exact Or.inr rfl) (PMs.any (PMs.cap (i := 9) sc__check_statement.nd rfl (by first | exact Or.inl rfl | exact Or.inr rfl) (by first | exact Or.inl rfl | exact Or.inr rfl) PMs.nil))))) (pss_cons (ps_expr (pe_callS (ok__demand T) (hr.mono (by show _ ≤ 3 + d; omega)) (by rfl) T.g__demand T.F__demand.kp T.b__demand (fun σ => passAt (takes_of rfl rfl rfl rfl) σ) (pa_cons (pe_chain op_le op_le pe_int (pv 8) (pe_gi (by rfl) T.c_MOST_ROUNDS)) (pa_cons pe_str pa_nil))))
  (pss_one (ps_expr (pe_callS (ihB T) (hr.mono (by show _ ≤ 3 + d; omega)) (by rfl) T.g__check_statements T.F__check_statements.kp T.b__check_statements (fun σ => passAt (takes_of rfl rfl rfl rfl) σ) (pa_cons (pv 0) (pa_cons (pv 1) (pa_cons (pv 9) (pa_cons (pe_callS (ok__with_name T) (hr.mono (by show _ ≤ 3 + d; omega)) (by rfl) T.g__with_name T.F__with_name.kp T.b__with_name (fun σ => passAt (takes_of rfl rfl rfl rfl) σ) (pa_cons (pv 3) (pa_cons (pv 7) (pa_cons (pe_gi (by rfl) T.c_VARIABLE) pa_nil)))) pa_nil))))))))
  (PCq.seq (PMs.txt (PMs.cap (i := 4) sc__check_statement.nd rfl (by first | exact Or.inl rfl | exact Or.inr rfl) (by first | exact Or.inl rfl | exact Or.inr rfl) (PMs.cap (i := 10) sc__check_statement.nd rfl (by first | exact Or.inl rfl | exact Or.inr rfl) (by first | exact Or.inl rfl | exact Or.inr rfl) (PMs.cap (i := 11) sc__check_statement.nd rfl (by first | exact Or.inl rfl | exact Or.inr rfl) (by first | exact Or.inl rfl | exact Or.inr rfl) (PMs.cap (i := 12) sc__check_statement.nd rfl (by first | exact Or.inl rfl | exact Or.inr rfl) (by first | exact Or.inl rfl | exact Or.inr rfl) PMs.nil))))) (pss_cons (ps_expr (pe_callS (ok__check_place T) (hr.mono (by show _ ≤ 3 + d; omega)) (by rfl) T.g__check_place T.F__check_place.kp T.b__check_place (fun σ => passAt (takes_of rfl rfl rfl rfl) σ) (pa_cons (pv 4) (pa_cons (pv 3) pa_nil))))
  (pss_one (ps_expr (pe_callS (ok__check_call T) (hr.mono (by show _ ≤ 3 + d; omega)) (by rfl) T.g__check_call T.F__check_call.kp T.b__check_call (fun σ => passAt (takes_of rfl rfl rfl rfl) σ) (pa_cons (pv 0) (pa_cons (pv 1) (pa_cons (pv 10) (pa_cons (pv 11) (pa_cons (pv 12) pa_nil)))))))))
  (PCq.seq (PMs.txt (PMs.cap (i := 4) sc__check_statement.nd rfl (by first | exact Or.inl rfl | exact Or.inr rfl) (by first | exact Or.inl rfl | exact Or.inr rfl) (PMs.cap (i := 13) sc__check_statement.nd rfl (by first | exact Or.inl rfl | exact Or.inr rfl) (by first | exact Or.inl rfl | exact Or.inr rfl) PMs.nil))) (pss_cons (ps_expr (pe_callS (ok__check_place T) (hr.mono (by show _ ≤ 3 + d; omega)) (by rfl) T.g__check_place T.F__check_place.kp T.b__check_place (fun σ => passAt (takes_of rfl rfl rfl rfl) σ) (pa_cons (pv 4) (pa_cons (pv 3) pa_nil))))
  (pss_one (ps_expr (pe_callS (ok__check_port T) (hr.mono (by show _ ≤ 3 + d; omega)) (by rfl) T.g__check_port T.F__check_port.kp T.b__check_port (fun σ => passAt (takes_of rfl rfl rfl rfl) σ) (pa_cons (pv 0) (pa_cons (pv 1) (pa_cons (pe_tup (pa_cons pe_str (pa_cons (pv 13) pa_nil))) pa_nil)))))))
  (PCq.seq (PMs.txt (PMs.cap (i := 13) sc__check_statement.nd rfl (by first | exact Or.inl rfl | exact Or.inr rfl) (by first | exact Or.inl rfl | exact Or.inr rfl) (PMs.any PMs.nil))) (pss_one (ps_expr (pe_callS (ok__check_port T) (hr.mono (by show _ ≤ 3 + d; omega)) (by rfl) T.g__check_port T.F__check_port.kp T.b__check_port (fun σ => passAt (takes_of rfl rfl rfl rfl) σ) (pa_cons (pv 0) (pa_cons (pv 1) (pa_cons (pe_tup (pa_cons pe_str (pa_cons (pv 13) pa_nil))) pa_nil))))))
  PCq.nil)))))))), ?_⟩
    rw [show ∀ a0 a1 a2 a3 : V, L2.start ["program", "own", "statement", "scope", "place", "then", "other", "name", "count", "body", "thing", "operation", "given", "port"] [a0, a1, a2, a3] = [some a0, some a1, some a2, some a3, none, none, none, none, none, none, none, none, none, none] from fun _ _ _ _ => rfl]
    obtain ⟨⟨w0, w1, w2, w3, rest, hpr, dpo, dob⟩, lo, lp, so⟩ := pg
    have pg : PgI K H pr obs ps := ⟨⟨w0, w1, w2, w3, rest, hpr, dpo, dob⟩, lo, lp, so⟩
    cases x with
    | set p e =>
      obtain ⟨t, ys, rfl, h3, h4⟩ := dpT dv
      obtain ⟨v1, r1, rfl, a1, g1⟩ := dp1 h4
      obtain ⟨v2, r2, rfl, a2, g2⟩ := dp1 g1
      obtain ⟨v3, r3, rfl, a3, g3⟩ := dp1 g2
      rw [dp0 g3, dpS a1] at h3
      unfold mStm at q qe
      walk_at "my rn"
      exact ⟨v2, T_, m, some p, rfl, ht, a2, fun e0 => q e0 _ (Same.refl _), qe⟩
    | ifs e a b =>
      obtain ⟨t, ys, rfl, h3, h4⟩ := dpT dv
      obtain ⟨v1, r1, rfl, a1, g1⟩ := dp1 h4
      obtain ⟨v2, r2, rfl, a2, g2⟩ := dp1 g1
      obtain ⟨v3, r3, rfl, a3, g3⟩ := dp1 g2
      obtain ⟨v4, r4, rfl, a4, g4⟩ := dp1 g3
      rw [dp0 g4, dpS a1] at h3
      have sd : max (dls a) (dls b) ≤ n := sd
      obtain ⟨n', rfl⟩ : ∃ n', n = n' + 1 := ⟨n - 1, by have := dls_pos a; omega⟩
      unfold Stm.ok at sok
      rw [Bool.and_eq_true, Bool.and_eq_true] at sok
      unfold mStm at q qe
      walk_at "my rn"
      refine imp n' _ _ _ _ rfl ⟨pr, T_, own, v3, a, m, obs, ps, rfl, a3, by omega, sok.2.1, pg, ht, by omega, ow, fun e0 H1 s1 => ?_, fun z e0 => qe z (by rw [e0]; rfl)⟩
      rw [e0, Option.none_or] at q qe
      walk_at "my rn"
      refine imp n' _ _ _ _ rfl ⟨pr, T_, own, v4, b, m, obs, ps, rfl, dp_same s1 a4, by omega, sok.2.2, pg.same s1, s1 _ _ ht, by omega, ow, fun e1 H2 s2 => ?_, fun z e1 => (qe z e1).same s1⟩
      exact q e1 _ (s1.trans s2)
    | loop x k e b =>
      obtain ⟨t, ys, rfl, h3, h4⟩ := dpT dv
      obtain ⟨v1, r1, rfl, a1, g1⟩ := dp1 h4
      obtain ⟨v2, r2, rfl, a2, g2⟩ := dp1 g1
      obtain ⟨v3, r3, rfl, a3, g3⟩ := dp1 g2
      obtain ⟨v4, r4, rfl, a4, g4⟩ := dp1 g3
      obtain ⟨v5, r5, rfl, a5, g5⟩ := dp1 g4
      rw [dp0 g5, dpS a1] at h3
      cases dpS a2; cases dpI a3
      have sd : dls b ≤ n := sd
      obtain ⟨n', rfl⟩ : ∃ n', n = n' + 1 := ⟨n - 1, by have := dls_pos b; omega⟩
      unfold Stm.ok at sok
      rw [Bool.and_eq_true, Bool.and_eq_true] at sok
      have lx := of_decide_eq_true sok.1
      unfold mStm at q qe
      walk_at "my rn"
      by_cases k1 : 1 ≤ k
      case neg =>
        rw [decide_eq_false k1]
        rw [if_neg (fun h => k1 h.1)] at qe
        refine Rd.ifF ?_
        walk_at "my rn"
        exact ⟨false, "size", rfl, by decide, fun e => (by cases e), fun _ => qe _ rfl⟩
      rw [decide_eq_true k1]
      refine Rd.ifT ?_
      walk_at "my rn"
      by_cases k2 : k ≤ 64
      case neg =>
        rw [decide_eq_false k2]
        rw [if_neg (fun h => k2 h.2)] at qe
        exact ⟨false, "size", rfl, by decide, fun e => (by cases e), fun _ => qe _ rfl⟩
      rw [decide_eq_true k2]
      rw [if_pos ⟨k1, k2⟩] at q qe
      refine ⟨true, "size", rfl, by decide, fun _ => ?_, fun e => by cases e⟩
      walk_at "my rn"
      refine ⟨T_, x, 2, m, rfl, lx, ht, by omega, fun m2 e2 p H1 np s1 hp => ?_, fun r e2 => qe r (by rw [e2])⟩
      rw [e2] at q qe
      have lm := mWith_len e2
      walk_at "my rn"
      refine imp n' _ _ _ _ rfl ⟨pr, p, own, v5, b, m2, obs, ps, rfl, dp_same s1 a5, by omega, sok.2.2, pg.same s1, hp, by omega, ow, fun e1 H2 s2 => ?_, fun z e1 => (qe z e1).same s1⟩
      exact q e1 _ (s1.trans s2)
    | call p o op as =>
      obtain ⟨t, ys, rfl, h3, h4⟩ := dpT dv
      obtain ⟨v1, r1, rfl, a1, g1⟩ := dp1 h4
      obtain ⟨v2, r2, rfl, a2, g2⟩ := dp1 g1
      obtain ⟨v3, r3, rfl, a3, g3⟩ := dp1 g2
      obtain ⟨v4, r4, rfl, a4, g4⟩ := dp1 g3
      obtain ⟨v5, r5, rfl, a5, g5⟩ := dp1 g4
      rw [dp0 g5, dpS a1] at h3
      cases dpS a3; cases dpS a4
      obtain ⟨G, gs, rfl, hG, dgs⟩ := dpL a5
      have lgs : gs.length = as.length := by rw [dps_len dgs, List.length_map]
      unfold mStm at q qe
      rw [← lgs] at q qe
      walk_at "my rn"
      refine ⟨v2, T_, m, p, rfl, ht, a2, fun e0 => ?_, fun z e0 => qe z (by rw [e0]; rfl)⟩
      rw [e0, Option.none_or] at q qe
      walk_at "my rn"
      refine ⟨pr, G, w0, w1, w2, w3, rest, gs, obs, own, o, op, rfl, hpr, dob, hG, lo, lp, ow, fun e1 H1 s1 => ?_, qe⟩
      exact q e1 _ s1
    | read p nm =>
      obtain ⟨t, ys, rfl, h3, h4⟩ := dpT dv
      obtain ⟨v1, r1, rfl, a1, g1⟩ := dp1 h4
      obtain ⟨v2, r2, rfl, a2, g2⟩ := dp1 g1
      obtain ⟨v3, r3, rfl, a3, g3⟩ := dp1 g2
      rw [dp0 g3, dpS a1] at h3
      cases dpS a3
      unfold mStm at q qe
      unfold Stm.ok at sok
      rw [Bool.and_eq_true] at sok
      walk_at "my rn"
      refine ⟨v2, T_, m, some p, rfl, ht, a2, fun e0 => ?_, fun z e0 => qe z (by rw [e0]; rfl)⟩
      rw [e0, Option.none_or] at q qe
      walk_at "my rn"
      intro p2 H1 np s1 hp2
      walk_at "my rn"
      refine ⟨pr, p2, w0, w1, w2, w3 :: rest, own, "in", nm, ps, rfl, s1.seqT hpr, dp_same s1 dpo, hp2, so, by decide +kernel, sok.2, fun e1 => ?_, fun z e1 => (qe z e1).same s1⟩
      exact q e1 _ s1
    | write nm e =>
      obtain ⟨t, ys, rfl, h3, h4⟩ := dpT dv
      obtain ⟨v1, r1, rfl, a1, g1⟩ := dp1 h4
      obtain ⟨v2, r2, rfl, a2, g2⟩ := dp1 g1
      obtain ⟨v3, r3, rfl, a3, g3⟩ := dp1 g2
      rw [dp0 g3, dpS a1] at h3
      cases dpS a2
      unfold mStm at q qe
      unfold Stm.ok at sok
      rw [Bool.and_eq_true] at sok
      walk_at "my rn"
      intro p2 H1 np s1 hp2
      walk_at "my rn"
      refine ⟨pr, p2, w0, w1, w2, w3 :: rest, own, "out", nm, ps, rfl, s1.seqT hpr, dp_same s1 dpo, hp2, so, by decide +kernel, sok.1, fun e1 => ?_, fun z e1 => (qe z e1).same s1⟩
      exact q e1 _ s1
theorem check_both (T : Top P K mg) : ∀ n : Nat, n ≤ 9 → FnOk P w K mg base (L2.CX P w) (3 + (27 + 2 * n) + 1) T.a__check_statement T.d__check_statement ["program", "own", "statement", "scope"] (sp__check_statement K T.C_RuleError n) ∧ FnOk P w K mg base (L2.CX P w) (3 + (28 + 2 * n) + 1) T.a__check_statements T.d__check_statements ["program", "own", "rows", "scope"] (sp__check_statements K T.C_RuleError n)
  | 0, h => by
    have a := step__check_statement (P := P) (w := w) (base := base) (spB := fun _ _ _ _ => False) T (d := 27) (n := 0) (by omega) (fun _ => ⟨fun _ _ _ _ h => h.elim, fun _ _ _ _ _ _ _ _ _ _ _ _ _ h => h.elim⟩) fun n' _ _ _ _ z => absurd z.symm (Nat.succ_ne_zero n')
    exact ⟨a, step__check_statements (P := P) (w := w) (base := base) T (d := 28) (n := 0) (by omega) fun _ => a⟩
  | n + 1, h => by
    have b := (check_both T n (by omega)).2
    have a := step__check_statement (P := P) (w := w) (base := base) T (d := 27 + 2 * (n + 1)) (n := n + 1) (by omega) (fun _ => b.mono (by omega)) fun n' vs H Q E z q => by
      cases z
      exact q
    exact ⟨a, step__check_statements (P := P) (w := w) (base := base) T (d := 28 + 2 * (n + 1)) (n := n + 1) (by omega) fun _ => a.mono (by omega)⟩
def sp__check_statements_any (K : PySem.W.Frag) (C : Addr) : Sp := fun vs H Q E => ∃ n, n ≤ 7 ∧ sp__check_statements K C n vs H Q E
theorem ok__check_statements (T : Top P K mg) : FnOk P w K mg base (L2.CX P w) 46 T.a__check_statements T.d__check_statements ["program", "own", "rows", "scope"] (sp__check_statements_any K T.C_RuleError) := by
  have a : ∀ n, n ≤ 7 → FnOk P w K mg base (L2.CX P w) 46 T.a__check_statements T.d__check_statements ["program", "own", "rows", "scope"] (sp__check_statements K T.C_RuleError n) := fun n hn => (check_both T n (by omega)).2.mono (by omega)
  exact ⟨fun vs H Q E ⟨n, hn, h⟩ => (a n hn).1 vs H Q E h, fun x1 x2 x3 x4 x5 x6 x7 x8 x9 x10 x11 x12 x13 ⟨n, hn, h⟩ => (a n hn).2 x1 x2 x3 x4 x5 x6 x7 x8 x9 x10 x11 x12 x13 h⟩
end


set_option Elab.async false
set_option linter.all false
set_option maxRecDepth 100000
set_option maxHeartbeats 1000000
--@@rec _check_statements _check_statement

--@@guards

/-! ### bodies and operations -/
def mSeq {α : Type} (f : Nat → List Str → α → Option Str) (nm : α → Str) : Nat → List Str → List α → Option Str
  | _, _, [] => none
  | i, tk, a :: r => (f i tk a).or (mSeq f nm (i + 1) (tk ++ [nm a]) r)
theorem seq_app {α : Type} (f : Nat → List Str → α → Option Str) (nm : α → Str) : ∀ (a b : List α) (i : Nat) (tk : List Str), mSeq f nm i tk (a ++ b) = (mSeq f nm i tk a).or (mSeq f nm (i + a.length) (tk ++ a.map nm) b)
  | [], b, i, tk => by
    show mSeq f nm i tk b = none.or (mSeq f nm (i + 0) (tk ++ []) b)
    rw [List.append_nil, Nat.add_zero, Option.none_or]
  | x :: r, b, i, tk => by
    show (f i tk x).or (mSeq f nm (i + 1) (tk ++ [nm x]) (r ++ b)) = ((f i tk x).or (mSeq f nm (i + 1) (tk ++ [nm x]) r)).or (mSeq f nm (i + (r.length + 1)) (tk ++ (nm x :: r.map nm)) b)
    rw [seq_app f nm r b, Option.or_assoc, List.append_assoc, Nat.add_assoc i 1, Nat.add_comm 1]
    rfl
theorem seq_step {α : Type} {f : Nat → List Str → α → Option Str} {nm : α → Str} {xs : List α} {tk : List Str} {i : Nat} {a : α} (h : mSeq f nm 0 tk (xs.take i) = none) (ha : xs[i]? = some a) : mSeq f nm 0 tk (xs.take (i + 1)) = f i (tk ++ (xs.take i).map nm) a := by
  have il := (List.getElem?_eq_some_iff.mp ha).1
  rw [List.take_add_one, ha, seq_app, h, Option.none_or, List.length_take, Nat.min_eq_left (by omega), Nat.zero_add]
  show (f i _ a).or none = _
  rw [Option.or_none]
theorem seq_err {α : Type} {f : Nat → List Str → α → Option Str} {nm : α → Str} {xs : List α} {tk : List Str} {i : Nat} {a : α} {r : Str} (h : mSeq f nm 0 tk (xs.take i) = none) (ha : xs[i]? = some a) (e : f i (tk ++ (xs.take i).map nm) a = some r) : mSeq f nm 0 tk xs = some r := by
  have := seq_step h ha
  rw [e] at this
  rw [← List.take_append_drop (i + 1) xs, seq_app, this]
  rfl
theorem map_snoc {α β : Type} {f : α → β} {xs : List α} {i : Nat} {a : α} (ha : xs[i]? = some a) : (xs.take (i + 1)).map f = (xs.take i).map f ++ [f a] := by
  rw [List.take_add_one, ha, List.map_append]; rfl
def mNm (z : Str) (tk : List Str) : Option Str := mName z fun s => decide (s ∈ tk)
def mBody (obs : List ObT) (ps : List (Str × Str)) (own : Int) (m : List (Str × Int)) (b : List Stm) : Option Str := if mFits b = true then mStms obs ps own b m else some "size"
def mPars (zs : List Str) (m : List (Str × Int)) : Except Str (List (Str × Int)) := mCells (zs.map fun z => (z, 0)) m
def mRes (m : List (Str × Int)) : Option Ex → Option Str
  | none => none
  | some e => mExpr m e 6
def orE {α : Type} (x : Except Str α) (f : α → Option Str) : Option Str := match x with
  | .ok a => f a
  | .error r => some r
def mOp (obs : List ObT) (ps : List (Str × Str)) (own : Int) (fm : List (Str × Int)) (_ : Nat) (tk : List Str) (o : OpT) : Option Str :=
  if o.pars.length ≤ 4 ∧ o.locs.length ≤ 16 then (mNm o.name tk).or (orE (mPars o.pars fm) fun m1 => orE (mCells o.locs m1) fun m2 => (mBody obs ps own m2 o.body).or (mRes m2 o.res)) else some "size"
def lenB (z : Str) : Bool := decide (z.length ≤ 10000)
def cellsB (cs : List (Str × Int)) : Bool := (cs.all fun c => lenB c.1) && decide (cs.length ≤ 100)
def bodyB (b : List Stm) : Bool := stmsB b && decide ((flats b).length ≤ 400)
def OpT.ok (o : OpT) : Bool := lenB o.name && ((o.pars.all lenB && decide (o.pars.length ≤ 100)) && (cellsB o.locs && (bodyB o.body && oB eB o.res)))
theorem cells_b {cs : List (Str × Int)} (h : cellsB cs = true) : (∀ c ∈ cs, c.1.length ≤ 10000) ∧ cs.length ≤ 100 := by
  unfold cellsB at h
  rw [Bool.and_eq_true] at h
  exact ⟨fun c m => of_decide_eq_true (List.all_eq_true.mp h.1 c m), of_decide_eq_true h.2⟩
theorem mCells_len' {cs m m1 : List (Str × Int)} (h : mCells cs m = .ok m1) : m1.length ≤ m.length + cs.length := mCells_len (i := cs.length) (by rw [List.take_of_length_le (Nat.le_refl _)]; exact h)
section
variable {P : Program} {w : World} {K : PySem.W.Frag} {mg : Str → Option Value} {base : Heap}
def sp__check_body (K : PySem.W.Frag) (C : Addr) : Sp := fun vs H Q E => ∃ (pr T_ : Addr) (own : Int) (v : V) (b : List Stm) (m : List (Str × Int)) (obs : List ObT) (ps : List (Str × Str)), vs = [.ref pr, .int own, v, .ref T_] ∧ Dp K H v (.list (stmsD b)) ∧ bodyB b = true ∧ PgI K H pr obs ps ∧
  H T_ = some (DSI m) ∧ m.length ≤ 480 ∧ -1 ≤ own ∧ Res C (mBody obs ps own m b) H Q E
theorem ok__check_body (T : Top P K mg) : FnOk P w K mg base (L2.CX P w) 47 T.a__check_body T.d__check_body ["program", "own", "body", "scope"]  (sp__check_body K T.C_RuleError) := by
  refine T.F__check_body.okX sc__check_body (fun vs H Q E h => ?_) (fun cdv A outer s H vs Q E hr h => ?_)
  · obtain ⟨_, _, _, _, _, _, _, _, rfl, _⟩ := h
    rfl
  · obtain ⟨pr, T_, own, v, b, m, obs, ps, rfl, dv, bb, pg, ht, ml, ow, q, qe⟩ := h
    refine ⟨_, (pss_cons (ps_expr (pe_callS (ok__demand T) (hr.mono (by decide)) (by rfl) T.g__demand T.F__demand.kp T.b__demand (fun σ => passAt (takes_of rfl rfl rfl rfl) σ) (pa_cons (pe_call (ok__fits T) (hr.mono (by decide)) (by rfl) T.g__fits T.F__fits.kp T.b__fits .nil pass0 (pa_cons (pv 2) pa_nil)) (pa_cons pe_str pa_nil))))
  (pss_one (ps_expr (pe_callS (ok__check_statements T) (hr.mono (by decide)) (by rfl) T.g__check_statements T.F__check_statements.kp T.b__check_statements (fun σ => passAt (takes_of rfl rfl rfl rfl) σ) (pa_cons (pv 0) (pa_cons (pv 1) (pa_cons (pv 2) (pa_cons (pv 3) pa_nil)))))))), ?_⟩
    unfold bodyB at bb
    rw [Bool.and_eq_true] at bb
    have fl := of_decide_eq_true bb.2
    unfold mBody at q qe
    rw [show ∀ a0 a1 a2 a3 : V, L2.start ["program", "own", "body", "scope"] [a0, a1, a2, a3] = [some a0, some a1, some a2, some a3] from fun _ _ _ _ => rfl]
    walk_at "my rn"
    refine ⟨v, b, rfl, dv, fl, fun H1 s1 => ?_⟩
    walk_at "my rn"
    refine ⟨mFits b, "size", rfl, by decide, fun e0 => ?_, fun e0 => (qe _ (if_neg fun h => by rw [h] at e0; cases e0)).same s1⟩
    rw [if_pos e0] at q qe
    have dl8 : dls b ≤ 8 := (of_decide_eq_true e0).1.1
    walk_at "my rn"
    refine ⟨7, by decide, pr, T_, own, v, b, m, obs, ps, rfl, dp_same s1 dv, dl8, bb.1, pg.same s1, s1 _ _ ht, by omega, ow, fun e1 H2 s2 => ?_, fun z e1 => (qe z e1).same s1⟩
    exact q e1 _ (s1.trans s2)
def TakenL (H : Hp) (T_ : Addr) (ns : List Str) : Prop := H T_ = some (.lst (ns.map V.str))
theorem TakenL.by_ {H : Hp} {T_ : Addr} {ns : List Str} (h : TakenL H T_ ns) : TakenBy H T_ (fun z => decide (z ∈ ns)) := .inl ⟨ns, h, fun _ => rfl⟩
def sp__check_operation (K : PySem.W.Frag) (C : Addr) : Sp := fun vs H Q E => ∃ (pr F T_ : Addr) (own : Int) (v : V) (o : OpT) (fm : List (Str × Int)) (tk : List Str) (i : Nat) (obs : List ObT) (ps : List (Str × Str)), vs = [.ref pr, .int own, v, .ref F, .ref T_] ∧ Dp K H v o.d ∧ o.ok = true ∧
  H F = some (DSI fm) ∧ fm.length ≤ 100 ∧ TakenL H T_ tk ∧ PgI K H pr obs ps ∧ -1 ≤ own ∧ Res C (mOp obs ps own fm i tk o) H Q E
theorem ok__check_operation (T : Top P K mg) : FnOk P w K mg base (L2.CX P w) 48 T.a__check_operation T.d__check_operation ["program", "own", "operation", "fields", "taken"]  (sp__check_operation K T.C_RuleError) := by
  refine T.F__check_operation.okX sc__check_operation (fun vs H Q E h => ?_) (fun cdv A outer s H vs Q E hr h => ?_)
  · obtain ⟨_, _, _, _, _, _, _, _, _, _, _, rfl, _⟩ := h
    rfl
  · obtain ⟨pr, F, T_, own, v, o, fm, tk, ix, obs, ps, rfl, dv, ook, hF, fml, hT, pg, ow, q, qe⟩ := h
    refine ⟨_, (pss_cons (ps_asg (pv 2) (pg_tup rfl (pgs_cons (pg_name (i := 5) sc__check_operation.nd rfl (by first | exact Or.inl rfl | exact Or.inr rfl)) (pgs_cons (pg_name (i := 6) sc__check_operation.nd rfl (by first | exact Or.inl rfl | exact Or.inr rfl)) (pgs_cons (pg_name (i := 7) sc__check_operation.nd rfl (by first | exact Or.inl rfl | exact Or.inr rfl)) (pgs_cons (pg_name (i := 8) sc__check_operation.nd rfl (by first | exact Or.inl rfl | exact Or.inr rfl)) (pgs_cons (pg_name (i := 9) sc__check_operation.nd rfl (by first | exact Or.inl rfl | exact Or.inr rfl)) (pgs_cons (pg_name (i := 10) sc__check_operation.nd rfl (by first | exact Or.inl rfl | exact Or.inr rfl)) pgs_nil))))))))
  (pss_cons (ps_expr (pe_callS (ok__demand T) (hr.mono (by decide)) (by rfl) T.g__demand T.F__demand.kp T.b__demand (fun σ => passAt (takes_of rfl rfl rfl rfl) σ) (pa_cons (pe_and (pe_cmpR op_le (pe_callB call_len_seq (by rfl) T.m_len PySem.boot_len (pa_cons (pv 7) pa_nil)) (pe_gi (by rfl) T.c_MOST_PARAMS) (nomark _)) (pe_one (pe_cmpR op_le (pe_callB call_len_seq (by rfl) T.m_len PySem.boot_len (pa_cons (pv 8) pa_nil)) (pe_gi (by rfl) T.c_MOST_DECLARED) (nomark _)))) (pa_cons pe_str pa_nil))))
  (pss_cons (ps_expr (pe_callS (ok__check_name T) (hr.mono (by decide)) (by rfl) T.g__check_name T.F__check_name.kp T.b__check_name (fun σ => passAt (takes_of rfl rfl rfl rfl) σ) (pa_cons (pv 6) (pa_cons (pv 4) pa_nil))))
  (pss_cons (ps_set (i := 11) sc__check_operation.nd rfl (by first | exact Or.inl rfl | exact Or.inr rfl) (pv 3))
  (pss_cons (ps_for (passes_of rfl) rfl (pi_list (pv 7)) (pg_name (i := 12) sc__check_operation.nd rfl (by first | exact Or.inl rfl | exact Or.inr rfl))
  (pss_one (ps_set (i := 11) sc__check_operation.nd rfl (by first | exact Or.inl rfl | exact Or.inr rfl) (pe_callS (ok__with_name T) (hr.mono (by decide)) (by rfl) T.g__with_name T.F__with_name.kp T.b__with_name (fun σ => passAt (takes_of rfl rfl rfl rfl) σ) (pa_cons (pv 11) (pa_cons (pv 12) (pa_cons (pe_gi (by rfl) T.c_SINGLE) pa_nil)))))))
  (pss_cons (ps_set (i := 11) sc__check_operation.nd rfl (by first | exact Or.inl rfl | exact Or.inr rfl) (pe_callS (ok__with_cells T) (hr.mono (by decide)) (by rfl) T.g__with_cells T.F__with_cells.kp T.b__with_cells (fun σ => passAt (takes_of rfl rfl rfl rfl) σ) (pa_cons (pv 11) (pa_cons (pv 8) pa_nil))))
  (pss_cons (ps_expr (pe_callS (ok__check_body T) (hr.mono (by decide)) (by rfl) T.g__check_body T.F__check_body.kp T.b__check_body (fun σ => passAt (takes_of rfl rfl rfl rfl) σ) (pa_cons (pv 0) (pa_cons (pv 1) (pa_cons (pv 9) (pa_cons (pv 11) pa_nil))))))
  (pss_one (ps_if (pt_cmpR op_notN (pv 10) pe_non (nomark _))
  (pss_one (ps_expr (pe_callS (ok__check_expression T) (hr.mono (by decide)) (by rfl) T.g__check_expression T.F__check_expression.kp T.b__check_expression (fun σ => passAt (takes_of rfl rfl rfl rfl) σ) (pa_cons (pv 10) (pa_cons (pe_gi (by rfl) T.c_DEEPEST) (pa_cons (pv 11) pa_nil))))))
  pss_nil))))))))), ?_⟩
    unfold OpT.ok at ook
    simp only [Bool.and_eq_true] at ook
    obtain ⟨k1, ⟨k2, k3⟩, k4, k5, k6⟩ := ook
    have k3 := of_decide_eq_true k3
    obtain ⟨k4, k4l⟩ := cells_b k4
    have dv' : Dp K H v (.tuple [.str "operation", .str o.name, .list (o.pars.map PyData.str), cellsD o.locs, .list (stmsD o.body), optD (o.res.map Ex.d)]) := dv
    obtain ⟨t, ys, rfl, h3, h4⟩ := dpT dv'
    obtain ⟨v1, r1, rfl, a1, g1⟩ := dp1 h4
    obtain ⟨v2, r2, rfl, a2, g2⟩ := dp1 g1
    obtain ⟨v3, r3, rfl, a3, g3⟩ := dp1 g2
    obtain ⟨v4, r4, rfl, a4, g4⟩ := dp1 g3
    obtain ⟨v5, r5, rfl, a5, g5⟩ := dp1 g4
    obtain ⟨v6, r6, rfl, a6, g6⟩ := dp1 g5
    cases dp0 g6; cases dpS a1; cases dpS a2
    obtain ⟨PA, px, rfl, hPA, dpx⟩ := dpL a3
    obtain ⟨CE, cx, rfl, hCE, dcx⟩ := dpL a4
    have lpx : px.length = o.pars.length := by rw [dps_len dpx, List.length_map]
    have lcx : cx.length = o.locs.length := by rw [dps_len dcx, List.length_map]
    unfold mOp at q qe
    rw [show ∀ a0 a1 a2 a3 a4 : V, L2.start ["program", "own", "operation", "fields", "taken", "_", "name", "params", "cells", "body", "result", "scope", "param"] [a0, a1, a2, a3, a4] = [some a0, some a1, some a2, some a3, some a4, none, none, none, none, none, none, none, none] from fun _ _ _ _ _ => rfl]
    walk_at "my rn"
    by_cases n1 : o.pars.length ≤ 4
    case neg =>
      rw [decide_eq_false (show ¬ (px.length : Int) ≤ 4 by omega)]
      refine Rd.ifF ?_
      walk_at "my rn"
      exact ⟨false, "size", rfl, by decide, fun e => (by cases e), fun _ => qe _ (if_neg fun h => n1 h.1)⟩
    rw [decide_eq_true (show (px.length : Int) ≤ 4 by omega)]
    refine Rd.ifT ?_
    walk_at "my rn"
    by_cases n2 : o.locs.length ≤ 16
    case neg =>
      rw [decide_eq_false (show ¬ (cx.length : Int) ≤ 16 by omega)]
      exact ⟨false, "size", rfl, by decide, fun e => (by cases e), fun _ => qe _ (if_neg fun h => n2 h.2)⟩
    rw [decide_eq_true (show (cx.length : Int) ≤ 16 by omega)]
    rw [if_pos ⟨n1, n2⟩] at q qe
    refine ⟨true, "size", rfl, by decide, fun _ => ?_, fun e => by cases e⟩
    walk_at "my rn"
    refine ⟨o.name, T_, _, rfl, of_decide_eq_true k1, hT.by_, fun e0 H1 s1 => ?_, fun z e0 => qe z (by unfold mNm; rw [e0]; rfl)⟩
    have e0 : mNm o.name tk = none := e0
    rw [e0, Option.none_or] at q qe
    walk_at "my rn"
    refine ⟨⟨_, s1.seq hPA⟩, ?_⟩
    refine for_it (walk_list (xs := px)) (fun i σ H' => ∃ (M : Addr) (m1 : List (Str × Int)) (y : Option V), σ = [some (.ref pr), some (.int own), some (.ref t), some (.ref F), some (.ref T_), some (.str "operation"), some (.str o.name), some (.ref PA), some (.ref CE), some v5, some v6, some (.ref M), y] ∧ Same H1 H' ∧ H' M = some (DSI m1) ∧ mCells ((o.pars.map fun z => (z, (0 : Int))).take i) fm = .ok m1) ⟨F, fm, none, rfl, Same.refl _, s1 _ _ hF, rfl⟩ (fun i σ H' _ ⟨_, _, _, _, s, _⟩ => (s1.trans s).seq hPA) ?_ ?_
    · rintro i x0 σ Ho H2 hi ⟨M, m1, y, rfl, s2, hM, em⟩ ⟨rfl, hx0⟩
      obtain ⟨d0, hd0, dx0⟩ := dp_at' dpx hx0
      obtain ⟨st, es, rfl⟩ : ∃ s, o.pars[i]? = some s ∧ PyData.str s = d0 := by
        rw [List.getElem?_map] at hd0
        cases z : o.pars[i]? with
        | none => rw [z] at hd0; cases hd0
        | some s => rw [z] at hd0; exact ⟨s, rfl, Option.some.inj hd0⟩
      cases dpS dx0
      have lm := mCells_len em
      have hc : (o.pars.map fun z => (z, (0 : Int)))[i]? = some (st, 0) := by rw [List.getElem?_map, es]; rfl
      have stp := mCells_step em hc
      have ec : mCell m1 (st, 0) = mWith st 0 m1 := if_pos ⟨Int.le_refl _, show (0 : Int) ≤ 64 by decide⟩
      rw [ec] at stp
      have lst := of_decide_eq_true (List.all_eq_true.mp k2 st (List.mem_of_getElem? es))
      have il := (List.getElem?_eq_some_iff.mp es).1
      walk_at "my rn"
      refine ⟨M, st, 0, m1, rfl, lst, hM, by omega, fun m2 e2 p H3 np3 s3 hp => ?_, fun r e2 => (qe r ?_).same (s1.trans s2)⟩
      · walk_at "my rn"
        exact ⟨p, m2, _, rfl, s2.trans s3, hp, stp.trans e2⟩
      · have : mPars o.pars fm = .error r := mCells_err em hc (ec.trans e2)
        rw [this]; rfl
    · rintro σ H2 ⟨M, m1, y, rfl, s2, hM, em⟩
      rw [List.take_of_length_le (by rw [List.length_map]; omega)] at em
      have s02 := s1.trans s2
      have l1 := mCells_len' em
      rw [List.length_map] at l1
      have em : mPars o.pars fm = .ok m1 := em
      rw [em] at q qe
      simp only [orE] at q qe
      walk_at "my rn"
      refine ⟨M, .ref CE, m1, o.locs, rfl, hM, dp_same s02 a4, k4, by omega, fun m2 e2 p H3 s3 hp => ?_, fun r e2 => (qe r (by rw [e2])).same s02⟩
      have s03 := s02.trans s3
      have l2 := mCells_len' e2
      rw [e2] at q qe
      dsimp only at q qe
      walk_at "my rn"
      refine ⟨pr, p, own, v5, o.body, m2, obs, ps, rfl, dp_same s03 a5, k5, pg.same s03, hp, by omega, ow, fun e3 H4 s4 => ?_, fun z e3 => (qe z (by rw [e3]; rfl)).same s03⟩
      rw [e3, Option.none_or] at q qe
      have s04 := s03.trans s4
      walk_at "my rn"
      cases er : o.res with
      | none =>
        rw [er] at a6 q qe
        cases dpN a6
        refine Rd.ifN (fun h => absurd rfl h) fun _ => ?_
        exact q rfl _ s04
      | some e =>
        rw [er] at a6 q qe k6
        have nn : v6 ≠ .non := fun z => by
          subst z
          have a6' : Dp K H .non e.d := a6
          cases e <;> cases a6'
        obtain ⟨⟨g, e1⟩, e2⟩ := eb_of k6
        refine Rd.ifN (fun _ => ?_) fun h => absurd h nn
        walk_at "my rn"
        exact ⟨g, v6, e, 6, p, m2, rfl, dp_same s04 a6, e1, e2, s4 _ _ hp, fun e4 H5 s5 => q e4 _ (s04.trans s5), fun z e4 => (qe z e4).same s04⟩
end


set_option Elab.async false
set_option linter.all false
set_option maxRecDepth 100000
set_option maxHeartbeats 1000000
--@@rec _check_statements _check_statement

--@@guards

/-! ### objects, tasks, interrupts -/
structure TkT where
  name : Str
  every : Int
  within : Int
  locs : List (Str × Int)
  body : List Stm
def TkT.d (t : TkT) : PyData := .tuple [.str "task", .str t.name, .int t.every, .int t.within, cellsD t.locs, .list (stmsD t.body)]
structure InT where
  name : Str
  every : Int
  within : Int
  thing : Str
  op : Str
  args : List PyData
def InT.d (t : InT) : PyData := .tuple [.str "interrupt", .str t.name, .int t.every, .int t.within, .str t.thing, .str t.op, .list t.args]
def mTimes (e w : Int) : Bool := decide (1 ≤ w) && (decide (w ≤ e) && decide (e ≤ 4194304))
def mObj (obs : List ObT) (ps : List (Str × Str)) (own : Nat) (tk : List Str) (o : ObT) : Option Str :=
  if o.fields.length ≤ 16 ∧ o.ops.length ≤ 4 then (mNm o.name tk).or (orE (mCells o.fields []) fun m => mSeq (mOp obs ps (own : Int) m) OpT.name 0 [] o.ops) else some "size"
def mTask (obs : List ObT) (ps : List (Str × Str)) (_ : Nat) (tk : List Str) (t : TkT) : Option Str :=
  if t.locs.length ≤ 16 ∧ mTimes t.every t.within = true then (mNm t.name tk).or (orE (mCells t.locs []) fun m => mBody obs ps (-1) m t.body) else some "size"
def mInt (obs : List ObT) (_ : Nat) (tk : List Str) (t : InT) : Option Str :=
  if mTimes t.every t.within = true then (mNm t.name tk).or (mCall obs (-1) t.thing t.op t.args.length) else some "size"
def ObT.ok (o : ObT) : Bool := lenB o.name && (cellsB o.fields && (o.ops.all OpT.ok && decide (o.ops.length ≤ 100)))
def TkT.ok (t : TkT) : Bool := lenB t.name && (cellsB t.locs && bodyB t.body)
section
variable {P : Program} {w : World} {K : PySem.W.Frag} {mg : Str → Option Value} {base : Heap}
def sp__check_object (K : PySem.W.Frag) (C : Addr) : Sp := fun vs H Q E => ∃ (pr T_ : Addr) (own : Nat) (ob : ObT) (tk : List Str) (obs : List ObT) (ps : List (Str × Str)), vs = [.ref pr, .int own, .ref T_] ∧ obs[own]? = some ob ∧ ob.ok = true ∧ TakenL H T_ tk ∧ PgI K H pr obs ps ∧ Res C (mObj obs ps own tk ob) H Q E
theorem ok__check_object (T : Top P K mg) : FnOk P w K mg base (L2.CX P w) 49 T.a__check_object T.d__check_object ["program", "own", "taken"]  (sp__check_object K T.C_RuleError) := by
  refine T.F__check_object.okX sc__check_object (fun vs H Q E h => ?_) (fun cdv A outer s H vs Q E hr h => ?_)
  · obtain ⟨_, _, _, _, _, _, _, rfl, _⟩ := h
    rfl
  · obtain ⟨pr, T_, own, ob, tk, obs, ps, rfl, hob, ook, hT, pg, q, qe⟩ := h
    refine ⟨_, (pss_cons (ps_asg (pe_ix ix_list (pe_ix ix_tup (pv 0) pe_int (fun _ _ => rfl)) (pv 1) (fun _ _ => rfl)) (pg_tup rfl (pgs_cons (pg_name (i := 3) sc__check_object.nd rfl (by first | exact Or.inl rfl | exact Or.inr rfl)) (pgs_cons (pg_name (i := 4) sc__check_object.nd rfl (by first | exact Or.inl rfl | exact Or.inr rfl)) (pgs_cons (pg_name (i := 5) sc__check_object.nd rfl (by first | exact Or.inl rfl | exact Or.inr rfl)) (pgs_cons (pg_name (i := 6) sc__check_object.nd rfl (by first | exact Or.inl rfl | exact Or.inr rfl)) pgs_nil))))))
  (pss_cons (ps_expr (pe_callS (ok__demand T) (hr.mono (by decide)) (by rfl) T.g__demand T.F__demand.kp T.b__demand (fun σ => passAt (takes_of rfl rfl rfl rfl) σ) (pa_cons (pe_and (pe_cmpR op_le (pe_callB call_len_seq (by rfl) T.m_len PySem.boot_len (pa_cons (pv 5) pa_nil)) (pe_gi (by rfl) T.c_MOST_DECLARED) (nomark _)) (pe_one (pe_cmpR op_le (pe_callB call_len_seq (by rfl) T.m_len PySem.boot_len (pa_cons (pv 6) pa_nil)) (pe_gi (by rfl) T.c_MOST_OPERATIONS) (nomark _)))) (pa_cons pe_str pa_nil))))
  (pss_cons (ps_expr (pe_callS (ok__check_name T) (hr.mono (by decide)) (by rfl) T.g__check_name T.F__check_name.kp T.b__check_name (fun σ => passAt (takes_of rfl rfl rfl rfl) σ) (pa_cons (pv 4) (pa_cons (pv 2) pa_nil))))
  (pss_cons (ps_set (i := 7) sc__check_object.nd rfl (by first | exact Or.inl rfl | exact Or.inr rfl) (pe_callS (ok__with_cells T) (hr.mono (by decide)) (by rfl) T.g__with_cells T.F__with_cells.kp T.b__with_cells (fun σ => passAt (takes_of rfl rfl rfl rfl) σ) (pa_cons pe_dnewK (pa_cons (pv 5) pa_nil))))
  (pss_cons (ps_set (i := 8) sc__check_object.nd rfl (by first | exact Or.inl rfl | exact Or.inr rfl) (pe_lst pa_nil))
  (pss_one (ps_for (passes_of rfl) rfl (pi_list (pv 6)) (pg_name (i := 9) sc__check_object.nd rfl (by first | exact Or.inl rfl | exact Or.inr rfl))
  (pss_cons (ps_expr (pe_callS (ok__check_operation T) (hr.mono (by decide)) (by rfl) T.g__check_operation T.F__check_operation.kp T.b__check_operation (fun σ => passAt (takes_of rfl rfl rfl rfl) σ) (pa_cons (pv 0) (pa_cons (pv 1) (pa_cons (pv 9) (pa_cons (pv 7) (pa_cons (pv 8) pa_nil)))))))
  (pss_one (ps_expr (pe_bm PySem.F.plainAttrs_list PySem.F.slot_list_append PySem.F.type_list_append mt_append (pv 8) (pa_cons (pe_ix ix_tup (pv 9) pe_int (fun _ _ => rfl)) pa_nil)))))))))))), ?_⟩
    unfold ObT.ok at ook
    simp only [Bool.and_eq_true] at ook
    obtain ⟨k1, k2, k3, k4⟩ := ook
    obtain ⟨k2, k2l⟩ := cells_b k2
    have k4 := of_decide_eq_true k4
    obtain ⟨w0, w1, w2, w3, rest, hpr, dpo, dob⟩ := pg.pr
    obtain ⟨O, os, rfl, hO, dos⟩ := dpL dob
    obtain ⟨vo, hvo, dvo⟩ := dp_at dos (i := own) (d := ob.d) (by rw [List.getElem?_map, hob]; rfl)
    obtain ⟨to, ys, rfl, hto, dys⟩ := dpT dvo
    obtain ⟨u1, r1, rfl, a1, h1⟩ := dp1 dys
    obtain ⟨u2, r2, rfl, a2, h2⟩ := dp1 h1
    obtain ⟨u3, r3, rfl, a3, h3⟩ := dp1 h2
    obtain ⟨u4, r4, rfl, a4, h4⟩ := dp1 h3
    cases dp0 h4; cases dpS a1; cases dpS a2
    obtain ⟨OP, xs, rfl, hOP, dops⟩ := dpL a4
    obtain ⟨FI, fs, rfl, hFI, dfs⟩ := dpL a3
    have lxs : xs.length = ob.ops.length := by rw [dps_len dops, List.length_map]
    have lfs : fs.length = ob.fields.length := by rw [dps_len dfs, List.length_map]
    unfold mObj at q qe
    rw [show ∀ a0 a1 a2 : V, L2.start ["program", "own", "taken", "_", "name", "fields", "operations", "scope", "names", "operation"] [a0, a1, a2] = [some a0, some a1, some a2, none, none, none, none, none, none, none] from fun _ _ _ => rfl]
    walk_at "my rn"
    refine Rd.ixTq hpr (Rd.at_val (j := 3) rfl rfl) ?_
    walk_at "my rn"
    refine Rd.ixLq hO (Rd.at_val rfl hvo) ?_
    walk_at "my rn"
    by_cases n1 : ob.fields.length ≤ 16
    case neg =>
      rw [decide_eq_false (show ¬ (fs.length : Int) ≤ 16 by omega)]
      refine Rd.ifF ?_
      walk_at "my rn"
      exact ⟨false, "size", rfl, by decide, fun e => (by cases e), fun _ => qe _ (if_neg fun h => n1 h.1)⟩
    rw [decide_eq_true (show (fs.length : Int) ≤ 16 by omega)]
    refine Rd.ifT ?_
    walk_at "my rn"
    by_cases n2 : ob.ops.length ≤ 4
    case neg =>
      rw [decide_eq_false (show ¬ (xs.length : Int) ≤ 4 by omega)]
      exact ⟨false, "size", rfl, by decide, fun e => (by cases e), fun _ => qe _ (if_neg fun h => n2 h.2)⟩
    rw [decide_eq_true (show (xs.length : Int) ≤ 4 by omega)]
    rw [if_pos ⟨n1, n2⟩] at q qe
    refine ⟨true, "size", rfl, by decide, fun _ => ?_, fun e => by cases e⟩
    walk_at "my rn"
    refine ⟨ob.name, T_, _, rfl, of_decide_eq_true k1, hT.by_, fun e0 H1 s1 => ?_, fun z e0 => qe z (by unfold mNm; rw [e0]; rfl)⟩
    have e0 : mNm ob.name tk = none := e0
    rw [e0, Option.none_or] at q qe
    walk_at "my rn"
    intro p0 H2 np0 s2 hp0
    have s02 := s1.trans s2
    walk_at "my rn"
    refine ⟨p0, .ref FI, [], ob.fields, rfl, hp0, dp_same s02 a3, k2, by show 0 + _ ≤ 500; omega, fun m1 e1 F H3 s3 hF => ?_, fun r e1 => (qe r (by rw [e1]; rfl)).same s02⟩
    have l1 := mCells_len' e1
    rw [e1] at q qe
    simp only [orE] at q qe
    have s03 := s02.trans s3
    walk_at "my rn"
    intro N H4 nN s4 hN
    have s04 := s03.trans s4
    have nNH := s03.free nN
    walk_at "my rn"
    refine ⟨⟨_, s04.seq hOP⟩, ?_⟩
    refine for_it (walk_list (xs := xs)) (fun i σ H' => ∃ (y : Option V), σ = [some (.ref pr), some (.int (own : Int)), some (.ref T_), some (.str "object"), some (.str ob.name), some (.ref FI), some (.ref OP), some (.ref F), some (.ref N), y] ∧ Same H3 H' ∧ TakenL H' N ((ob.ops.take i).map OpT.name) ∧ mSeq (mOp obs ps (own : Int) m1) OpT.name 0 [] (ob.ops.take i) = none) ⟨none, rfl, s4, hN, rfl⟩ (fun i σ H' _ ⟨_, _, s, _⟩ => (s03.trans s).seq hOP) ?_ ?_
    · rintro i x0 σ Ho H5 hi ⟨y, rfl, s5, hN5, al⟩ ⟨rfl, hx0⟩
      obtain ⟨d0, hd0, dx0⟩ := dp_at' dops hx0
      obtain ⟨st, es, rfl⟩ : ∃ s, ob.ops[i]? = some s ∧ OpT.d s = d0 := by
        rw [List.getElem?_map] at hd0
        cases z : ob.ops[i]? with
        | none => rw [z] at hd0; cases hd0
        | some s => rw [z] at hd0; exact ⟨s, rfl, Option.some.inj hd0⟩
      have s05 := s03.trans s5
      have i2 : i < ob.ops.length := by omega
      have stp := seq_step al es
      have okO := List.all_eq_true.mp k3 st (List.mem_of_getElem? es)
      walk_at "my rn"
      refine ⟨pr, F, N, own, x0, st, m1, _, i, obs, ps, rfl, dp_same s05 dx0, okO, s5 _ _ hF, by have : ([] : List (Str × Int)).length = 0 := rfl; omega, hN5, pg.same s05, by omega, fun e2 H6 s6 => ?_, fun z e2 => (qe z (seq_err al es e2)).same s05⟩
      have s06 := s05.trans s6
      obtain ⟨tp, zs, rfl, htp, dzs⟩ := dpT dx0
      obtain ⟨u1, r1, rfl, b1, h1⟩ := dp1 dzs
      obtain ⟨u2, r2, rfl, b2, h2⟩ := dp1 h1
      cases dpS b2
      have hN6 := s6 _ _ hN5
      walk_at "my rn"
      refine Rd.ixTq (s06.seqT htp) (Rd.at_val (j := 1) rfl rfl) ?_
      walk_at "my rn"
      refine Rd.app hN6 (Rd.szl (by simp; omega)) ?_
      refine ⟨_, rfl, fun a o e => by rw [upd_ne (fun w => by rw [w, nN] at e; cases e)]; exact s6 _ _ (s5 a o e), ?_, stp.trans e2⟩
      show upd H6 N _ N = _
      rw [upd_same, map_snoc es, List.map_append]
      rfl
    · rintro σ H5 ⟨y, rfl, s5, hN5, al⟩
      rw [List.take_of_length_le (by omega)] at al
      walk_at "my rn"
      exact q al _ (s03.trans s5)
def sp__check_task (K : PySem.W.Frag) (C : Addr) : Sp := fun vs H Q E => ∃ (pr T_ : Addr) (v : V) (t : TkT) (i : Nat) (tk : List Str) (obs : List ObT) (ps : List (Str × Str)), vs = [.ref pr, v, .ref T_] ∧ Dp K H v t.d ∧ t.ok = true ∧ TakenL H T_ tk ∧ PgI K H pr obs ps ∧ Res C (mTask obs ps i tk t) H Q E
theorem ok__check_task (T : Top P K mg) : FnOk P w K mg base (L2.CX P w) 48 T.a__check_task T.d__check_task ["program", "task", "taken"]  (sp__check_task K T.C_RuleError) := by
  refine T.F__check_task.okX sc__check_task (fun vs H Q E h => ?_) (fun cdv A outer s H vs Q E hr h => ?_)
  · obtain ⟨_, _, _, _, _, _, _, _, rfl, _⟩ := h
    rfl
  · obtain ⟨pr, T_, v, tt, ix, tk, obs, ps, rfl, dv, tok, hT, pg, q, qe⟩ := h
    refine ⟨_, (pss_cons (ps_asg (pv 1) (pg_tup rfl (pgs_cons (pg_name (i := 3) sc__check_task.nd rfl (by first | exact Or.inl rfl | exact Or.inr rfl)) (pgs_cons (pg_name (i := 4) sc__check_task.nd rfl (by first | exact Or.inl rfl | exact Or.inr rfl)) (pgs_cons (pg_name (i := 5) sc__check_task.nd rfl (by first | exact Or.inl rfl | exact Or.inr rfl)) (pgs_cons (pg_name (i := 6) sc__check_task.nd rfl (by first | exact Or.inl rfl | exact Or.inr rfl)) (pgs_cons (pg_name (i := 7) sc__check_task.nd rfl (by first | exact Or.inl rfl | exact Or.inr rfl)) (pgs_cons (pg_name (i := 8) sc__check_task.nd rfl (by first | exact Or.inl rfl | exact Or.inr rfl)) pgs_nil))))))))
  (pss_cons (ps_expr (pe_callS (ok__demand T) (hr.mono (by decide)) (by rfl) T.g__demand T.F__demand.kp T.b__demand (fun σ => passAt (takes_of rfl rfl rfl rfl) σ) (pa_cons (pe_and (pe_cmpR op_le (pe_callB call_len_seq (by rfl) T.m_len PySem.boot_len (pa_cons (pv 7) pa_nil)) (pe_gi (by rfl) T.c_MOST_DECLARED) (nomark _)) (pe_one (pe_call (ok__are_times T) (hr.mono (by decide)) (by rfl) T.g__are_times T.F__are_times.kp T.b__are_times .nil pass0 (pa_cons (pv 5) (pa_cons (pv 6) pa_nil))))) (pa_cons pe_str pa_nil))))
  (pss_cons (ps_expr (pe_callS (ok__check_name T) (hr.mono (by decide)) (by rfl) T.g__check_name T.F__check_name.kp T.b__check_name (fun σ => passAt (takes_of rfl rfl rfl rfl) σ) (pa_cons (pv 4) (pa_cons (pv 2) pa_nil))))
  (pss_one (ps_expr (pe_callS (ok__check_body T) (hr.mono (by decide)) (by rfl) T.g__check_body T.F__check_body.kp T.b__check_body (fun σ => passAt (takes_of rfl rfl rfl rfl) σ) (pa_cons (pv 0) (pa_cons (pe_gi (by rfl) T.c_NO_OBJECT) (pa_cons (pv 8) (pa_cons (pe_callS (ok__with_cells T) (hr.mono (by decide)) (by rfl) T.g__with_cells T.F__with_cells.kp T.b__with_cells (fun σ => passAt (takes_of rfl rfl rfl rfl) σ) (pa_cons pe_dnewK (pa_cons (pv 7) pa_nil))) pa_nil)))))))))), ?_⟩
    unfold TkT.ok at tok
    simp only [Bool.and_eq_true] at tok
    obtain ⟨k1, k2, k3⟩ := tok
    obtain ⟨k2, k2l⟩ := cells_b k2
    obtain ⟨t, ys, rfl, h3, h4⟩ := dpT dv
    obtain ⟨v1, r1, rfl, a1, g1⟩ := dp1 h4
    obtain ⟨v2, r2, rfl, a2, g2⟩ := dp1 g1
    obtain ⟨v3, r3, rfl, a3, g3⟩ := dp1 g2
    obtain ⟨v4, r4, rfl, a4, g4⟩ := dp1 g3
    obtain ⟨v5, r5, rfl, a5, g5⟩ := dp1 g4
    obtain ⟨v6, r6, rfl, a6, g6⟩ := dp1 g5
    cases dp0 g6; cases dpS a1; cases dpS a2; cases dpI a3; cases dpI a4
    obtain ⟨CE, cx, rfl, hCE, dcx⟩ := dpL a5
    have lcx : cx.length = tt.locs.length := by rw [dps_len dcx, List.length_map]
    unfold mTask at q qe
    rw [show ∀ a0 a1 a2 : V, L2.start ["program", "task", "taken", "_", "name", "every", "within", "cells", "body"] [a0, a1, a2] = [some a0, some a1, some a2, none, none, none, none, none, none] from fun _ _ _ => rfl]
    walk_at "my rn"
    by_cases n1 : tt.locs.length ≤ 16
    case neg =>
      rw [decide_eq_false (show ¬ (cx.length : Int) ≤ 16 by omega)]
      refine Rd.ifF ?_
      walk_at "my rn"
      exact ⟨false, "size", rfl, by decide, fun e => (by cases e), fun _ => qe _ (if_neg fun h => n1 h.1)⟩
    rw [decide_eq_true (show (cx.length : Int) ≤ 16 by omega)]
    refine Rd.ifT ?_
    walk_at "my rn"
    refine ⟨tt.every, tt.within, rfl, ?_⟩
    walk_at "my rn"
    refine ⟨mTimes tt.every tt.within, "size", rfl, by decide, fun e0 => ?_, fun e0 => qe _ (if_neg fun h => by rw [h.2] at e0; cases e0)⟩
    rw [if_pos ⟨n1, e0⟩] at q qe
    walk_at "my rn"
    refine ⟨tt.name, T_, _, rfl, of_decide_eq_true k1, hT.by_, fun e0 H1 s1 => ?_, fun z e0 => qe z (by unfold mNm; rw [e0]; rfl)⟩
    have e0 : mNm tt.name tk = none := e0
    rw [e0, Option.none_or] at q qe
    walk_at "my rn"
    intro p0 H2 np0 s2 hp0
    have s02 := s1.trans s2
    walk_at "my rn"
    refine ⟨p0, .ref CE, [], tt.locs, rfl, hp0, dp_same s02 a5, k2, by show 0 + _ ≤ 500; omega, fun m1 e1 F H3 s3 hF => ?_, fun r e1 => (qe r (by rw [e1]; rfl)).same s02⟩
    have l1 := mCells_len' e1
    rw [e1] at q qe
    simp only [orE] at q qe
    have s03 := s02.trans s3
    walk_at "my rn"
    refine ⟨pr, F, -1, v6, tt.body, m1, obs, ps, rfl, dp_same s03 a6, k3, pg.same s03, hF, by have : ([] : List (Str × Int)).length = 0 := rfl; omega, Int.le_refl _, fun e2 H4 s4 => ?_, fun z e2 => (qe z e2).same s03⟩
    exact q e2 _ (s03.trans s4)
def sp__check_interrupt (K : PySem.W.Frag) (C : Addr) : Sp := fun vs H Q E => ∃ (pr T_ : Addr) (v : V) (t : InT) (i : Nat) (tk : List Str) (obs : List ObT) (ps : List (Str × Str)), vs = [.ref pr, v, .ref T_] ∧ Dp K H v t.d ∧ lenB t.name = true ∧ TakenL H T_ tk ∧ PgI K H pr obs ps ∧ Res C (mInt obs i tk t) H Q E
theorem ok__check_interrupt (T : Top P K mg) : FnOk P w K mg base (L2.CX P w) 5 T.a__check_interrupt T.d__check_interrupt ["program", "interrupt", "taken"]  (sp__check_interrupt K T.C_RuleError) := by
  refine T.F__check_interrupt.okX sc__check_interrupt (fun vs H Q E h => ?_) (fun cdv A outer s H vs Q E hr h => ?_)
  · obtain ⟨_, _, _, _, _, _, _, _, rfl, _⟩ := h
    rfl
  · obtain ⟨pr, T_, v, tt, ix, tk, obs, ps, rfl, dv, k1, hT, pg, q, qe⟩ := h
    refine ⟨_, (pss_cons (ps_asg (pv 1) (pg_tup rfl (pgs_cons (pg_name (i := 3) sc__check_interrupt.nd rfl (by first | exact Or.inl rfl | exact Or.inr rfl)) (pgs_cons (pg_name (i := 4) sc__check_interrupt.nd rfl (by first | exact Or.inl rfl | exact Or.inr rfl)) (pgs_cons (pg_name (i := 5) sc__check_interrupt.nd rfl (by first | exact Or.inl rfl | exact Or.inr rfl)) (pgs_cons (pg_name (i := 6) sc__check_interrupt.nd rfl (by first | exact Or.inl rfl | exact Or.inr rfl)) (pgs_cons (pg_name (i := 7) sc__check_interrupt.nd rfl (by first | exact Or.inl rfl | exact Or.inr rfl)) (pgs_cons (pg_name (i := 8) sc__check_interrupt.nd rfl (by first | exact Or.inl rfl | exact Or.inr rfl)) (pgs_cons (pg_name (i := 9) sc__check_interrupt.nd rfl (by first | exact Or.inl rfl | exact Or.inr rfl)) pgs_nil)))))))))
  (pss_cons (ps_expr (pe_callS (ok__demand T) (hr.mono (by decide)) (by rfl) T.g__demand T.F__demand.kp T.b__demand (fun σ => passAt (takes_of rfl rfl rfl rfl) σ) (pa_cons (pe_call (ok__are_times T) (hr.mono (by decide)) (by rfl) T.g__are_times T.F__are_times.kp T.b__are_times .nil pass0 (pa_cons (pv 5) (pa_cons (pv 6) pa_nil))) (pa_cons pe_str pa_nil))))
  (pss_cons (ps_expr (pe_callS (ok__check_name T) (hr.mono (by decide)) (by rfl) T.g__check_name T.F__check_name.kp T.b__check_name (fun σ => passAt (takes_of rfl rfl rfl rfl) σ) (pa_cons (pv 4) (pa_cons (pv 2) pa_nil))))
  (pss_one (ps_expr (pe_callS (ok__check_call T) (hr.mono (by decide)) (by rfl) T.g__check_call T.F__check_call.kp T.b__check_call (fun σ => passAt (takes_of rfl rfl rfl rfl) σ) (pa_cons (pv 0) (pa_cons (pe_gi (by rfl) T.c_NO_OBJECT) (pa_cons (pv 7) (pa_cons (pv 8) (pa_cons (pv 9) pa_nil))))))))))), ?_⟩
    obtain ⟨t, ys, rfl, h3, h4⟩ := dpT dv
    obtain ⟨v1, r1, rfl, a1, g1⟩ := dp1 h4
    obtain ⟨v2, r2, rfl, a2, g2⟩ := dp1 g1
    obtain ⟨v3, r3, rfl, a3, g3⟩ := dp1 g2
    obtain ⟨v4, r4, rfl, a4, g4⟩ := dp1 g3
    obtain ⟨v5, r5, rfl, a5, g5⟩ := dp1 g4
    obtain ⟨v6, r6, rfl, a6, g6⟩ := dp1 g5
    obtain ⟨v7, r7, rfl, a7, g7⟩ := dp1 g6
    cases dp0 g7; cases dpS a1; cases dpS a2; cases dpI a3; cases dpI a4; cases dpS a5; cases dpS a6
    obtain ⟨G, gs, rfl, hG, dgs⟩ := dpL a7
    have lgs := dps_len dgs
    obtain ⟨w0, w1, w2, w3, rest, hpr, dpo, dob⟩ := pg.pr
    unfold mInt at q qe
    rw [← lgs] at q qe
    rw [show ∀ a0 a1 a2 : V, L2.start ["program", "interrupt", "taken", "_", "name", "every", "within", "thing", "operation", "given"] [a0, a1, a2] = [some a0, some a1, some a2, none, none, none, none, none, none, none] from fun _ _ _ => rfl]
    walk_at "my rn"
    refine ⟨tt.every, tt.within, rfl, ?_⟩
    walk_at "my rn"
    refine ⟨mTimes tt.every tt.within, "size", rfl, by decide, fun e0 => ?_, fun e0 => qe _ (if_neg fun h => by rw [h] at e0; cases e0)⟩
    rw [if_pos e0] at q qe
    walk_at "my rn"
    refine ⟨tt.name, T_, _, rfl, of_decide_eq_true k1, hT.by_, fun e0 H1 s1 => ?_, fun z e0 => qe z (by unfold mNm; rw [e0]; rfl)⟩
    have e0 : mNm tt.name tk = none := e0
    rw [e0, Option.none_or] at q qe
    walk_at "my rn"
    refine ⟨pr, G, w0, w1, w2, w3, rest, gs, obs, -1, tt.thing, tt.op, rfl, s1.seqT hpr, dp_same s1 dob, s1.seq hG, pg.lo, pg.lp, Int.le_refl _, fun e1 H2 s2 => ?_, fun z e1 => (qe z e1).same s1⟩
    exact q e1 _ (s1.trans s2)
end


set_option Elab.async false
set_option linter.all false
set_option maxRecDepth 100000
set_option maxHeartbeats 1000000
--@@rec _check_statements _check_statement

--@@guards

/-! ### whole programs -/
structure PgT where
  name : Str
  ports : List (Str × Str)
  obs : List ObT
  tasks : List TkT
  irs : List InT
def PgT.d (p : PgT) : PyData := .tuple [.str "system", .str p.name, .list (p.ports.map portD), .list (p.obs.map ObT.d), .list (p.tasks.map TkT.d), .list (p.irs.map InT.d)]
def cntW (k : Str) (ps : List (Str × Str)) : Nat := (ps.filter fun q => decide (q.1 = k)).length
def mPt (_ : Nat) (tk : List Str) (q : Str × Str) : Option Str := mNm q.2 tk
def ifS (c : Prop) [Decidable c] (x : Option Str) : Option Str := if c then x else some "size"
def mCheck (p : PgT) : Option Str :=
  (mNm p.name []).or (ifS (cntW "in" p.ports ≤ 8 ∧ cntW "out" p.ports ≤ 8) ((mSeq mPt (·.2) 0 [] p.ports).or (ifS (p.obs.length ≤ 4) ((mSeq (mObj p.obs p.ports) ObT.name 0 (p.ports.map (·.2)) p.obs).or
    (ifS (p.tasks.length ≤ 8) ((mSeq (mTask p.obs p.ports) TkT.name 0 (p.ports.map (·.2) ++ p.obs.map ObT.name) p.tasks).or
      (ifS (p.irs.length ≤ 2) (mSeq (mInt p.obs) InT.name 0 ((p.ports.map (·.2) ++ p.obs.map ObT.name) ++ p.tasks.map TkT.name) p.irs))))))))
def portB (q : Str × Str) : Bool := PyData.strOk q.1 && (PyData.strOk q.2 && lenB q.2)
def PgT.ok (p : PgT) : Bool := lenB p.name && ((p.ports.all portB && decide (p.ports.length ≤ 100)) && ((p.obs.all ObT.ok && decide (p.obs.length ≤ 100)) && ((p.tasks.all TkT.ok && decide (p.tasks.length ≤ 100)) && ((p.irs.all fun t => lenB t.name) && decide (p.irs.length ≤ 100)))))
theorem lc_cntE {J : It} {n : Nat} {G : Hp → Prop} {Y : Nat → Hp → V → Hp → Prop} (w : Walk J n G Y) (N : Nat → Nat) (hN0 : N 0 = 0) (hNb : ∀ i, i ≤ n → N i ≤ i) {g : TG} {tt : TT} {te : TE} {vs : List Nat} {σ : L2.St} {H1 : Hp} {D : Addr} {Qd : Hp → Prop} (nD : H1 D = none) (hn : n ≤ 90000) (hG : ∀ H, Rd.But D H1 H → G H)
    (hs : ∀ (i : Nat) x H H' (Kt : VK) (Kn : Hp → Prop), i < n → Rd.But D H1 H → Y i H x H' → (N (i + 1) = N i + 1 → ∀ v H4, Same H H4 → Kt v H4) → (N (i + 1) = N i → ∀ H4, Same H H4 → Kn H4) →
      g x (wipe σ vs) H' fun σ2 H2 => wipe σ2 vs = wipe σ vs ∧ tt σ2 H2 fun b H3 => if b = true then te σ2 H3 Kt else Kn H3)
    (hd : ∀ H (ys : List V), ys.length = N n → Same H1 H → H D = some (.lst ys) → Qd H) :
    ∃ W : Nat → Nat → Hp → Prop, (∃ m, W 0 m (upd H1 D (.lst []))) ∧ ∀ i m H, W i m H →
      (J.stop i H ∧ Qd H) ∨ (J.go i H ∧ ∃ Nx : Hp → Prop, (∀ H', Nx H' → ∃ m', m' < m ∧ W (i + 1) m' H') ∧ ∀ x H', J.yld i H x H' → g x (wipe σ vs) H' fun σ2 H2 => wipe σ2 vs = wipe σ vs ∧ tt σ2 H2 fun b H3 =>
        if b = true then te σ2 H3 fun y H4 => ∃ acc, H4 D = some (.lst acc) ∧ acc.length < sizeLine ∧ Nx (upd H4 D (.lst (acc ++ [y]))) else Nx H3) := by
  refine lc_it w (fun i H => ∃ ys : List V, ys.length = N i ∧ Rd.But D H1 H ∧ H D = some (.lst ys)) ⟨[], hN0.symm, Rd.But.at_, upd_same⟩ (fun i H _ ⟨_, _, b, _⟩ => hG H b) (fun i x H H' hi ⟨ys, h3, b, hD⟩ y => ?_) (fun H ⟨ys, h3, b, hD⟩ => hd H ys h3 (b.to nD) hD)
  have := hNb i (by omega)
  refine hs i x H H' _ _ hi b y (fun e v H4 sm => ?_) (fun e H4 sm => ?_)
  · exact ⟨_, sm _ _ hD, Rd.szl (by omega), ys ++ [v], by simp; omega, (b.trans (Rd.But.same sm)).trans Rd.But.at_, by rw [upd_same]⟩
  · exact ⟨ys, by omega, b.trans (Rd.But.same sm), sm _ _ hD⟩
theorem cntW_step {k : Str} {ps : List (Str × Str)} {i : Nat} {q : Str × Str} (h : ps[i]? = some q) : cntW k (ps.take (i + 1)) = cntW k (ps.take i) + if q.1 = k then 1 else 0 := by
  unfold cntW
  rw [List.take_add_one, h, List.filter_append, List.length_append]
  by_cases e : q.1 = k <;> simp [e]
theorem cntW_le (k : Str) (ps : List (Str × Str)) (i : Nat) : cntW k (ps.take i) ≤ i := by
  refine Nat.le_trans (List.length_filter_le _ _) ?_
  rw [List.length_take]
  omega
theorem ifS_neg {c : Prop} [Decidable c] {x : Option Str} (h : ¬ c) : ifS c x = some "size" := if_neg h
theorem ifS_pos {c : Prop} [Decidable c] {x : Option Str} (h : c) : ifS c x = x := if_pos h
section
variable {P : Program} {w : World} {K : PySem.W.Frag} {mg : Str → Option Value} {base : Heap}
def sp_check (K : PySem.W.Frag) (C : Addr) : Sp := fun vs H Q E => ∃ (v : V) (pg : PgT), vs = [v] ∧ Dp K H v pg.d ∧ pg.ok = true ∧ Res C (mCheck pg) H Q E
theorem ok_check (T : Top P K mg) : FnOk P w K mg base (L2.CX P w) 50 T.a_check T.d_check ["program"]  (sp_check K T.C_RuleError) := by
  refine T.F_check.okX sc_check (fun vs H Q E h => ?_) (fun cdv A outer s H vs Q E hr h => ?_)
  · obtain ⟨_, _, rfl, _⟩ := h
    rfl
  · obtain ⟨v, pg, rfl, dv, pok, q, qe⟩ := h
    refine ⟨_, (pss_cons (ps_asg (pv 0) (pg_tup rfl (pgs_cons (pg_name (i := 1) sc_check.nd rfl (by first | exact Or.inl rfl | exact Or.inr rfl)) (pgs_cons (pg_name (i := 2) sc_check.nd rfl (by first | exact Or.inl rfl | exact Or.inr rfl)) (pgs_cons (pg_name (i := 3) sc_check.nd rfl (by first | exact Or.inl rfl | exact Or.inr rfl)) (pgs_cons (pg_name (i := 4) sc_check.nd rfl (by first | exact Or.inl rfl | exact Or.inr rfl)) (pgs_cons (pg_name (i := 5) sc_check.nd rfl (by first | exact Or.inl rfl | exact Or.inr rfl)) (pgs_cons (pg_name (i := 6) sc_check.nd rfl (by first | exact Or.inl rfl | exact Or.inr rfl)) pgs_nil))))))))
  (pss_cons (ps_expr (pe_callS (ok__check_name T) (hr.mono (by decide)) (by rfl) T.g__check_name T.F__check_name.kp T.b__check_name (fun σ => passAt (takes_of rfl rfl rfl rfl) σ) (pa_cons (pv 2) (pa_cons (pe_lst pa_nil) pa_nil))))
  (pss_cons (ps_for (passes_of rfl) rfl (pi_tup (pe_tup (pa_cons pe_str (pa_cons pe_str pa_nil)))) (pg_name (i := 7) sc_check.nd rfl (by first | exact Or.inl rfl | exact Or.inr rfl))
  (pss_one (ps_expr (pe_callS (ok__demand T) (hr.mono (by decide)) (by rfl) T.g__demand T.F__demand.kp T.b__demand (fun σ => passAt (takes_of rfl rfl rfl rfl) σ) (pa_cons (pe_cmpR op_le (pe_callB call_len_seq (by rfl) T.m_len PySem.boot_len (pa_cons (pe_lc (own := [("port", 8)]) (g := gName 8) rfl sc_check.nd (pi_list (pv 3)) (blkOk_by (N := ["program", "_", "name", "ports", "objects", "tasks", "interrupts", "kind", "port", "names", "at", "thing", "task", "interrupt"]) (sc := defScope s_check) (by decide +kernel)) (fun _ _ _ _ _ => pg_name (i := 8) sc_check.nd rfl (Or.inl rfl)) (fun _ _ _ _ _ => pts_one (pt_cmpR op_eq (pe_ix (r := rIxT K) ix_tup (pv 8) pe_int (fun _ _ => rfl)) (pv 7) (nomark _))) (fun _ _ _ _ _ => (pv 8))) pa_nil)) (pe_gi (by rfl) T.c_MOST_PORTS) (nomark _)) (pa_cons pe_str pa_nil))))))
  (pss_cons (ps_set (i := 9) sc_check.nd rfl (by first | exact Or.inl rfl | exact Or.inr rfl) (pe_lst pa_nil))
  (pss_cons (ps_for (passes_of rfl) rfl (pi_list (pv 3)) (pg_tup rfl (pgs_cons (pg_name (i := 1) sc_check.nd rfl (by first | exact Or.inl rfl | exact Or.inr rfl)) (pgs_cons (pg_name (i := 8) sc_check.nd rfl (by first | exact Or.inl rfl | exact Or.inr rfl)) pgs_nil)))
  (pss_cons (ps_expr (pe_callS (ok__check_name T) (hr.mono (by decide)) (by rfl) T.g__check_name T.F__check_name.kp T.b__check_name (fun σ => passAt (takes_of rfl rfl rfl rfl) σ) (pa_cons (pv 8) (pa_cons (pv 9) pa_nil))))
  (pss_one (ps_expr (pe_bm PySem.F.plainAttrs_list PySem.F.slot_list_append PySem.F.type_list_append mt_append (pv 9) (pa_cons (pv 8) pa_nil))))))
  (pss_cons (ps_expr (pe_callS (ok__demand T) (hr.mono (by decide)) (by rfl) T.g__demand T.F__demand.kp T.b__demand (fun σ => passAt (takes_of rfl rfl rfl rfl) σ) (pa_cons (pe_cmpR op_le (pe_callB call_len_seq (by rfl) T.m_len PySem.boot_len (pa_cons (pv 4) pa_nil)) (pe_gi (by rfl) T.c_MOST_OBJECTS) (nomark _)) (pa_cons pe_str pa_nil))))
  (pss_cons (ps_for (passes_of rfl) rfl (pi_enum (by rfl) T.m_enumerate (pa_cons (pv 4) pa_nil)) (pg_tup rfl (pgs_cons (pg_name (i := 10) sc_check.nd rfl (by first | exact Or.inl rfl | exact Or.inr rfl)) (pgs_cons (pg_name (i := 11) sc_check.nd rfl (by first | exact Or.inl rfl | exact Or.inr rfl)) pgs_nil)))
  (pss_cons (ps_expr (pe_callS (ok__check_object T) (hr.mono (by decide)) (by rfl) T.g__check_object T.F__check_object.kp T.b__check_object (fun σ => passAt (takes_of rfl rfl rfl rfl) σ) (pa_cons (pv 0) (pa_cons (pv 10) (pa_cons (pv 9) pa_nil)))))
  (pss_one (ps_expr (pe_bm PySem.F.plainAttrs_list PySem.F.slot_list_append PySem.F.type_list_append mt_append (pv 9) (pa_cons (pe_ix ix_tup (pv 11) pe_int (fun _ _ => rfl)) pa_nil))))))
  (pss_cons (ps_expr (pe_callS (ok__demand T) (hr.mono (by decide)) (by rfl) T.g__demand T.F__demand.kp T.b__demand (fun σ => passAt (takes_of rfl rfl rfl rfl) σ) (pa_cons (pe_cmpR op_le (pe_callB call_len_seq (by rfl) T.m_len PySem.boot_len (pa_cons (pv 5) pa_nil)) (pe_gi (by rfl) T.c_MOST_TASKS) (nomark _)) (pa_cons pe_str pa_nil))))
  (pss_cons (ps_for (passes_of rfl) rfl (pi_list (pv 5)) (pg_name (i := 12) sc_check.nd rfl (by first | exact Or.inl rfl | exact Or.inr rfl))
  (pss_cons (ps_expr (pe_callS (ok__check_task T) (hr.mono (by decide)) (by rfl) T.g__check_task T.F__check_task.kp T.b__check_task (fun σ => passAt (takes_of rfl rfl rfl rfl) σ) (pa_cons (pv 0) (pa_cons (pv 12) (pa_cons (pv 9) pa_nil)))))
  (pss_one (ps_expr (pe_bm PySem.F.plainAttrs_list PySem.F.slot_list_append PySem.F.type_list_append mt_append (pv 9) (pa_cons (pe_ix ix_tup (pv 12) pe_int (fun _ _ => rfl)) pa_nil))))))
  (pss_cons (ps_expr (pe_callS (ok__demand T) (hr.mono (by decide)) (by rfl) T.g__demand T.F__demand.kp T.b__demand (fun σ => passAt (takes_of rfl rfl rfl rfl) σ) (pa_cons (pe_cmpR op_le (pe_callB call_len_seq (by rfl) T.m_len PySem.boot_len (pa_cons (pv 6) pa_nil)) (pe_gi (by rfl) T.c_MOST_INTERRUPTS) (nomark _)) (pa_cons pe_str pa_nil))))
  (pss_one (ps_for (passes_of rfl) rfl (pi_list (pv 6)) (pg_name (i := 13) sc_check.nd rfl (by first | exact Or.inl rfl | exact Or.inr rfl))
  (pss_cons (ps_expr (pe_callS (ok__check_interrupt T) (hr.mono (by decide)) (by rfl) T.g__check_interrupt T.F__check_interrupt.kp T.b__check_interrupt (fun σ => passAt (takes_of rfl rfl rfl rfl) σ) (pa_cons (pv 0) (pa_cons (pv 13) (pa_cons (pv 9) pa_nil)))))
  (pss_one (ps_expr (pe_bm PySem.F.plainAttrs_list PySem.F.slot_list_append PySem.F.type_list_append mt_append (pv 9) (pa_cons (pe_ix ix_tup (pv 13) pe_int (fun _ _ => rfl)) pa_nil))))))))))))))))), ?_⟩
    unfold PgT.ok at pok
    simp only [Bool.and_eq_true] at pok
    obtain ⟨k1, ⟨k2, k3⟩, ⟨k4, k5⟩, ⟨k6, k7⟩, k8, k9⟩ := pok
    have k1 := of_decide_eq_true k1
    have k3 := of_decide_eq_true k3
    have k5 := of_decide_eq_true k5
    have k7 := of_decide_eq_true k7
    have k9 := of_decide_eq_true k9
    have kp : ∀ q ∈ pg.ports, PyData.strOk q.1 = true ∧ PyData.strOk q.2 = true ∧ q.2.length ≤ 10000 := fun q m => by
      have := List.all_eq_true.mp k2 q m
      unfold portB at this
      rw [Bool.and_eq_true, Bool.and_eq_true] at this
      exact ⟨this.1, this.2.1, of_decide_eq_true this.2.2⟩
    have ko : ∀ o ∈ pg.obs, o.ok = true := List.all_eq_true.mp k4
    obtain ⟨t, ys, rfl, h3, h4⟩ := dpT dv
    obtain ⟨v1, r1, rfl, a1, g1⟩ := dp1 h4
    obtain ⟨v2, r2, rfl, a2, g2⟩ := dp1 g1
    obtain ⟨v3, r3, rfl, a3, g3⟩ := dp1 g2
    obtain ⟨v4, r4, rfl, a4, g4⟩ := dp1 g3
    obtain ⟨v5, r5, rfl, a5, g5⟩ := dp1 g4
    obtain ⟨v6, r6, rfl, a6, g6⟩ := dp1 g5
    cases dp0 g6; cases dpS a1; cases dpS a2
    obtain ⟨Po, po, rfl, hPo, dpo⟩ := dpL a3
    obtain ⟨Ob_, ob, rfl, hOb, dob⟩ := dpL a4
    obtain ⟨Ta, ta, rfl, hTa, dta⟩ := dpL a5
    obtain ⟨Ir, ir, rfl, hIr, dir⟩ := dpL a6
    have lpo : po.length = pg.ports.length := by rw [dps_len dpo, List.length_map]
    have lob : ob.length = pg.obs.length := by rw [dps_len dob, List.length_map]
    have lta : ta.length = pg.tasks.length := by rw [dps_len dta, List.length_map]
    have lir : ir.length = pg.irs.length := by rw [dps_len dir, List.length_map]
    have PG : PgI K H t pg.obs pg.ports := ⟨⟨_, _, _, _, _, h3, a3, a4⟩, by omega, fun o m => by
      have := ko o m
      unfold ObT.ok at this
      simp only [Bool.and_eq_true] at this
      have := of_decide_eq_true this.2.2.2
      omega, fun q m => ⟨(kp q m).1, (kp q m).2.1⟩⟩
    unfold mCheck at q qe
    rw [show ∀ a0 : V, L2.start ["program", "_", "name", "ports", "objects", "tasks", "interrupts", "kind", "port", "names", "at", "thing", "task", "interrupt"] [a0] = [some a0, none, none, none, none, none, none, none, none, none, none, none, none, none] from fun _ => rfl]
    walk_at "my rn"
    intro p0 H1 np0 s1 hp0
    walk_at "my rn"
    refine ⟨pg.name, p0, _, rfl, k1, TakenL.by_ (ns := []) hp0, fun e0 H2 s2 => ?_, fun z e0 => (qe z (by unfold mNm; rw [e0]; rfl)).same s1⟩
    have e0 : mNm pg.name [] = none := e0
    rw [e0, Option.none_or] at q qe
    have s02 := s1.trans s2
    walk_at "my rn"
    intro p1 H3 np1 s3 hp1
    have s03 := s02.trans s3
    refine ⟨p1, rfl, ⟨_, SqT.of hp1⟩, ?_⟩
    refine for_it (walk_tup (xs := [.str "in", .str "out"])) (fun i σ H' => ∃ (y7 y8 y9 y10 y11 y12 y13 : Option V), σ = [some (.ref t), some (.str "system"), some (.str pg.name), some (.ref Po), some (.ref Ob_), some (.ref Ta), some (.ref Ir), y7, y8, y9, y10, y11, y12, y13] ∧ Same H3 H' ∧ (1 ≤ i → cntW "in" pg.ports ≤ 8) ∧ (2 ≤ i → cntW "out" pg.ports ≤ 8)) ⟨_, _, _, _, _, _, _, rfl, Same.refl _, fun h => by omega, fun h => by omega⟩ (fun i σ H' _ ⟨_, _, _, _, _, _, _, _, s, _⟩ => SqT.of (s _ _ hp1)) ?_ ?_
    · rintro i x0 σ Ho H4 hi ⟨y7, y8, y9, y10, y11, y12, y13, rfl, s4, c1, c2⟩ ⟨rfl, hx0⟩
      obtain ⟨kz, rfl, hkz⟩ : ∃ kz : Str, x0 = .str kz ∧ (i = 0 ∧ kz = "in" ∨ i = 1 ∧ kz = "out") := by
        match i, hx0 with
        | 0, hx0 => exact ⟨_, (Option.some.inj hx0).symm, .inl ⟨rfl, rfl⟩⟩
        | 1, hx0 => exact ⟨_, (Option.some.inj hx0).symm, .inr ⟨rfl, rfl⟩⟩
        | i + 2, hx0 => exact absurd hi (by show ¬ i + 2 < 2; omega)
      have s04 := s03.trans s4
      walk_at "my rn"
      refine ⟨⟨_, s04.seq hPo⟩, ?_⟩
      intro D nD
      refine lc_cntE (walk_list (xs := po)) (fun j => cntW kz (pg.ports.take j)) rfl (fun j _ => cntW_le _ _ _) nD (by omega) (fun H b => (b.to nD).seq (s04.seq hPo)) (fun j x Hj Hj' Kt Kn hj b yy kt kn => ?_) (fun H5 rs lrs s5 hD => ?_)
      · obtain ⟨rfl, hx⟩ := yy
        have sj := s04.trans (b.to nD)
        obtain ⟨d0, hd0, dx0⟩ := dp_at' dpo hx
        obtain ⟨q0, eq0, rfl⟩ : ∃ s, pg.ports[j]? = some s ∧ portD s = d0 := by
          rw [List.getElem?_map] at hd0
          cases z : pg.ports[j]? with
          | none => rw [z] at hd0; cases hd0
          | some s => rw [z] at hd0; exact ⟨s, rfl, Option.some.inj hd0⟩
        have stp := cntW_step (k := kz) eq0
        obtain ⟨tp, zs, rfl, htp, dzs⟩ := dpT dx0
        obtain ⟨u1, r1, rfl, b1, h1⟩ := dp1 dzs
        obtain ⟨u2, r2, rfl, b2, h2⟩ := dp1 h1
        cases dp0 h2; cases dpS b1; cases dpS b2
        have htj := sj.seqT htp
        simp only [List.map_cons, List.map_nil, L2.wipe, List.set_cons_succ, List.set_cons_zero]
        walk_at "my rn"
        refine ⟨rfl, ?_⟩
        walk_at "my rn"
        refine Rd.ifD (fun z => ?_) fun z => ?_
        · walk_at "my rn"
          rw [if_pos (V.str.inj z)] at stp
          exact kt stp _ _ (Same.refl _)
        · rw [if_neg (fun h => z (congrArg V.str h))] at stp
          exact kn stp _ (Same.refl _)
      · rw [show List.take po.length pg.ports = pg.ports from List.take_of_length_le (by omega)] at lrs
        walk_at "my rn"
        by_cases hc : cntW kz pg.ports ≤ 8
        · rw [decide_eq_true (show (rs.length : Int) ≤ 8 by omega)]
          refine ⟨true, "size", rfl, by decide, fun _ => ?_, fun e => by cases e⟩
          refine ⟨_, _, _, _, _, _, _, rfl, s4.trans s5, fun _ => ?_, fun h2 => ?_⟩
          · rcases hkz with ⟨rfl, rfl⟩ | ⟨rfl, rfl⟩
            · exact hc
            · exact c1 (Nat.le_refl _)
          · rcases hkz with ⟨rfl, rfl⟩ | ⟨rfl, rfl⟩
            · omega
            · exact hc
        · rw [decide_eq_false (show ¬ (rs.length : Int) ≤ 8 by omega)]
          refine ⟨false, "size", rfl, by decide, fun e => (by cases e), fun _ => (qe "size" (ifS_neg fun h => ?_)).same (s04.trans s5)⟩
          rcases hkz with ⟨rfl, rfl⟩ | ⟨rfl, rfl⟩
          · exact hc h.1
          · exact hc h.2
    · rintro σ H4 ⟨y7, y8, y9, y10, y11, y12, y13, rfl, s4, c1, c2⟩
      rw [ifS_pos ⟨c1 (by decide), c2 (by decide)⟩] at q qe
      have s04 := s03.trans s4
      walk_at "my rn"
      intro N H5 nN s5 hN
      have nNH := s04.free nN
      have s05 := s04.trans s5
      obtain ⟨A, eA⟩ : ∃ A, A = pg.ports.map (·.2) := ⟨_, rfl⟩
      obtain ⟨B, eB⟩ : ∃ B, B = pg.obs.map ObT.name := ⟨_, rfl⟩
      obtain ⟨C, eC⟩ : ∃ C, C = pg.tasks.map TkT.name := ⟨_, rfl⟩
      rw [← eA, ← eB, ← eC] at q qe
      have lA : A.length = pg.ports.length := by rw [eA, List.length_map]
      have lB : B.length = pg.obs.length := by rw [eB, List.length_map]
      have lC : C.length = pg.tasks.length := by rw [eC, List.length_map]
      have app : ∀ {Ha Hb : Hp} {ns : List Str} {z : Str}, Same H4 Ha → TakenL Ha N ns → Same H4 (upd Ha N (.lst (ns.map V.str ++ [.str z]))) ∧ TakenL (upd Ha N (.lst (ns.map V.str ++ [.str z]))) N (ns ++ [z]) := fun s h => by
        refine ⟨fun a o e => by rw [upd_ne (fun w => by rw [w, nN] at e; cases e)]; exact s a o e, ?_⟩
        show upd _ N _ N = _
        rw [upd_same, List.map_append]
        rfl
      walk_at "my rn"
      refine ⟨⟨_, s05.seq hPo⟩, ?_⟩
      refine for_it (walk_list (xs := po)) (fun i σ H' => ∃ (y1 y7 y8 y10 y11 y12 y13 : Option V), σ = [some (.ref t), y1, some (.str pg.name), some (.ref Po), some (.ref Ob_), some (.ref Ta), some (.ref Ir), y7, y8, some (.ref N), y10, y11, y12, y13] ∧ Same H4 H' ∧ TakenL H' N ((pg.ports.take i).map (·.2)) ∧ mSeq mPt (·.2) 0 [] (pg.ports.take i) = none) ⟨_, _, _, _, _, _, _, rfl, s5, hN, rfl⟩ (fun i σ H' _ ⟨_, _, _, _, _, _, _, _, s, _⟩ => (s04.trans s).seq hPo) ?_ ?_
      · rintro i x0 σ Ho H6 hi ⟨y1, y7, y8, y10, y11, y12, y13, rfl, s6, hN6, al⟩ ⟨rfl, hx⟩
        have s06 := s04.trans s6
        obtain ⟨d0, hd0, dx0⟩ := dp_at' dpo hx
        obtain ⟨q0, eq0, rfl⟩ : ∃ s, pg.ports[i]? = some s ∧ portD s = d0 := by
          rw [List.getElem?_map] at hd0
          cases z : pg.ports[i]? with
          | none => rw [z] at hd0; cases hd0
          | some s => rw [z] at hd0; exact ⟨s, rfl, Option.some.inj hd0⟩
        have stp := seq_step al eq0
        obtain ⟨tp, zs, rfl, htp, dzs⟩ := dpT dx0
        obtain ⟨u1, r1, rfl, b1, h1⟩ := dp1 dzs
        obtain ⟨u2, r2, rfl, b2, h2⟩ := dp1 h1
        cases dp0 h2; cases dpS b1; cases dpS b2
        have htj := s06.seqT htp
        walk_at "my rn"
        refine ⟨q0.2, N, _, rfl, (kp q0 (List.mem_of_getElem? eq0)).2.2, hN6.by_, fun e1 H7 s7 => ?_, fun z e1 => (qe z ?_).same s06⟩
        · have e1 : mPt i ([] ++ (pg.ports.take i).map (·.2)) q0 = none := e1
          have hN7 : TakenL H7 N _ := s7 _ _ hN6
          obtain ⟨z1, z2⟩ := app (Hb := H) (z := q0.2) (s6.trans s7) hN7
          walk_at "my rn"
          refine Rd.app hN7 (Rd.szl (by simp; omega)) ?_
          refine ⟨_, _, _, _, _, _, _, rfl, z1, ?_, stp.trans e1⟩
          rw [map_snoc eq0]
          exact z2
        · rw [seq_err al eq0 (show mPt i ([] ++ (pg.ports.take i).map (·.2)) q0 = some z from e1)]
          rfl
      · rintro σ H6 ⟨y1, y7, y8, y10, y11, y12, y13, rfl, s6, hN6, al⟩
        rw [List.take_of_length_le (by omega)] at hN6 al
        rw [al, Option.none_or] at q qe
        rw [← eA] at hN6
        have s06 := s04.trans s6
        have hOb6 := s06.seq hOb
        walk_at "my rn"
        by_cases n1 : pg.obs.length ≤ 4
        case neg =>
          rw [decide_eq_false (show ¬ (ob.length : Int) ≤ 4 by omega)]
          exact ⟨false, "size", rfl, by decide, fun e => (by cases e), fun _ => (qe _ (ifS_neg n1)).same s06⟩
        rw [decide_eq_true (show (ob.length : Int) ≤ 4 by omega)]
        rw [ifS_pos n1] at q qe
        refine ⟨true, "size", rfl, by decide, fun _ => ?_, fun e => by cases e⟩
        walk_at "my rn"
        refine for_enum (xs := ob) (fun i σ H' => ∃ (y1 y7 y8 y10 y11 y12 y13 : Option V), σ = [some (.ref t), y1, some (.str pg.name), some (.ref Po), some (.ref Ob_), some (.ref Ta), some (.ref Ir), y7, y8, some (.ref N), y10, y11, y12, y13] ∧ Same H4 H' ∧ TakenL H' N (A ++ (pg.obs.take i).map ObT.name) ∧ mSeq (mObj pg.obs pg.ports) ObT.name 0 A (pg.obs.take i) = none) ⟨_, _, _, _, _, _, _, rfl, s6, by rw [List.take_zero, List.map_nil, List.append_nil]; exact hN6, rfl⟩ (fun i σ H' _ ⟨_, _, _, _, _, _, _, _, s, _⟩ => (s04.trans s).seq hOb) ?_ ?_
        · rintro i x0 Tt σ H7 hx ⟨y1, y7, y8, y10, y11, y12, y13, rfl, s7, hN7, al⟩ nT
          obtain ⟨H8, e8⟩ : ∃ H8, H8 = upd H7 Tt (.tup [.int (i : Int), x0]) := ⟨_, rfl⟩
          have hT8 : H8 Tt = some (.tup [.int (i : Int), x0]) := by rw [e8]; exact upd_same
          have s78 : Same H7 H8 := by rw [e8]; exact same_new nT
          rw [← e8]
          have s8 := s7.trans s78
          have s08 := s04.trans s8
          have hN8 : TakenL H8 N _ := s78 _ _ hN7
          have hi := (List.getElem?_eq_some_iff.mp hx).1
          obtain ⟨o, eo⟩ : ∃ o, pg.obs[i]? = some o := ⟨_, List.getElem?_eq_getElem (by omega)⟩
          have stp := seq_step al eo
          obtain ⟨d0, hd0, dx0⟩ := dp_at' dob hx
          rw [List.getElem?_map, eo] at hd0
          cases hd0
          have hTT : SqT K H8 Tt [.int (i : Int), x0] := SqT.of hT8
          walk_at "my rn"
          refine ⟨t, N, i, o, _, pg.obs, pg.ports, rfl, eo, ko o (List.mem_of_getElem? eo), hN8, PG.same s08, fun e1 H9 s9 => ?_, fun z e1 => (qe z ?_).same s08⟩
          · have s09 := s08.trans s9
            have hN9 : TakenL H9 N _ := s9 _ _ hN8
            obtain ⟨z1, z2⟩ := app (Hb := H) (z := o.name) (s8.trans s9) hN9
            obtain ⟨tp, zs, rfl, htp, dzs⟩ := dpT dx0
            obtain ⟨u1, r1, rfl, b1, h1⟩ := dp1 dzs
            obtain ⟨u2, r2, rfl, b2, h2⟩ := dp1 h1
            cases dpS b2
            walk_at "my rn"
            refine Rd.ixTq (s09.seqT htp) (Rd.at_val (j := 1) rfl rfl) ?_
            walk_at "my rn"
            refine Rd.app hN9 (Rd.szl (by simp; omega)) ?_
            refine ⟨_, _, _, _, _, _, _, rfl, z1, ?_, stp.trans e1⟩
            rw [map_snoc eo, ← List.append_assoc]
            exact z2
          · rw [seq_err al eo e1]
            rfl
        · rintro σ H7 ⟨y1, y7, y8, y10, y11, y12, y13, rfl, s7, hN7, al⟩
          rw [List.take_of_length_le (by omega)] at hN7 al
          rw [al, Option.none_or] at q qe
          rw [← eB] at hN7
          have s07 := s04.trans s7
          have hTa7 := s07.seq hTa
          walk_at "my rn"
          by_cases n2 : pg.tasks.length ≤ 8
          case neg =>
            rw [decide_eq_false (show ¬ (ta.length : Int) ≤ 8 by omega)]
            exact ⟨false, "size", rfl, by decide, fun e => (by cases e), fun _ => (qe _ (ifS_neg n2)).same s07⟩
          rw [decide_eq_true (show (ta.length : Int) ≤ 8 by omega)]
          rw [ifS_pos n2] at q qe
          refine ⟨true, "size", rfl, by decide, fun _ => ?_, fun e => by cases e⟩
          walk_at "my rn"
          refine for_it (walk_list (xs := ta)) (fun i σ H' => ∃ (y1 y7 y8 y10 y11 y12 y13 : Option V), σ = [some (.ref t), y1, some (.str pg.name), some (.ref Po), some (.ref Ob_), some (.ref Ta), some (.ref Ir), y7, y8, some (.ref N), y10, y11, y12, y13] ∧ Same H4 H' ∧ TakenL H' N ((A ++ B) ++ (pg.tasks.take i).map TkT.name) ∧ mSeq (mTask pg.obs pg.ports) TkT.name 0 (A ++ B) (pg.tasks.take i) = none) ⟨_, _, _, _, _, _, _, rfl, s7, by rw [List.take_zero, List.map_nil, List.append_nil]; exact hN7, rfl⟩ (fun i σ H' _ ⟨_, _, _, _, _, _, _, _, s, _⟩ => (s04.trans s).seq hTa) ?_ ?_
          · rintro i x0 σ Ho H8 hi ⟨y1, y7, y8, y10, y11, y12, y13, rfl, s8, hN8, al⟩ ⟨rfl, hx⟩
            have s08 := s04.trans s8
            obtain ⟨o, eo⟩ : ∃ o, pg.tasks[i]? = some o := ⟨_, List.getElem?_eq_getElem (by omega)⟩
            have stp := seq_step al eo
            obtain ⟨d0, hd0, dx0⟩ := dp_at' dta hx
            rw [List.getElem?_map, eo] at hd0
            cases hd0
            walk_at "my rn"
            refine ⟨t, N, x0, o, i, _, pg.obs, pg.ports, rfl, dp_same s08 dx0, List.all_eq_true.mp k6 o (List.mem_of_getElem? eo), hN8, PG.same s08, fun e1 H9 s9 => ?_, fun z e1 => (qe z ?_).same s08⟩
            · have s09 := s08.trans s9
              have hN9 : TakenL H9 N _ := s9 _ _ hN8
              obtain ⟨z1, z2⟩ := app (Hb := H) (z := o.name) (s8.trans s9) hN9
              obtain ⟨tp, zs, rfl, htp, dzs⟩ := dpT dx0
              obtain ⟨u1, r1, rfl, b1, h1⟩ := dp1 dzs
              obtain ⟨u2, r2, rfl, b2, h2⟩ := dp1 h1
              cases dpS b2
              walk_at "my rn"
              refine Rd.ixTq (s09.seqT htp) (Rd.at_val (j := 1) rfl rfl) ?_
              walk_at "my rn"
              refine Rd.app hN9 (Rd.szl (by simp; omega)) ?_
              refine ⟨_, _, _, _, _, _, _, rfl, z1, ?_, stp.trans e1⟩
              rw [map_snoc eo, ← List.append_assoc (A ++ B)]
              exact z2
            · rw [seq_err al eo e1]
              rfl
          · rintro σ H8 ⟨y1, y7, y8, y10, y11, y12, y13, rfl, s8, hN8, al⟩
            rw [List.take_of_length_le (by omega)] at hN8 al
            rw [al, Option.none_or] at q qe
            rw [← eC] at hN8
            have s08 := s04.trans s8
            have hIr8 := s08.seq hIr
            walk_at "my rn"
            by_cases n3 : pg.irs.length ≤ 2
            case neg =>
              rw [decide_eq_false (show ¬ (ir.length : Int) ≤ 2 by omega)]
              exact ⟨false, "size", rfl, by decide, fun e => (by cases e), fun _ => (qe _ (ifS_neg n3)).same s08⟩
            rw [decide_eq_true (show (ir.length : Int) ≤ 2 by omega)]
            rw [ifS_pos n3] at q qe
            refine ⟨true, "size", rfl, by decide, fun _ => ?_, fun e => by cases e⟩
            walk_at "my rn"
            refine for_it (walk_list (xs := ir)) (fun i σ H' => ∃ (y1 y7 y8 y10 y11 y12 y13 : Option V), σ = [some (.ref t), y1, some (.str pg.name), some (.ref Po), some (.ref Ob_), some (.ref Ta), some (.ref Ir), y7, y8, some (.ref N), y10, y11, y12, y13] ∧ Same H4 H' ∧ TakenL H' N (((A ++ B) ++ C) ++ (pg.irs.take i).map InT.name) ∧ mSeq (mInt pg.obs) InT.name 0 ((A ++ B) ++ C) (pg.irs.take i) = none) ⟨_, _, _, _, _, _, _, rfl, s8, by rw [List.take_zero, List.map_nil, List.append_nil]; exact hN8, rfl⟩ (fun i σ H' _ ⟨_, _, _, _, _, _, _, _, s, _⟩ => (s04.trans s).seq hIr) ?_ ?_
            · rintro i x0 σ Ho H9 hi ⟨y1, y7, y8, y10, y11, y12, y13, rfl, s9, hN9, al⟩ ⟨rfl, hx⟩
              have s09 := s04.trans s9
              obtain ⟨o, eo⟩ : ∃ o, pg.irs[i]? = some o := ⟨_, List.getElem?_eq_getElem (by omega)⟩
              have stp := seq_step al eo
              obtain ⟨d0, hd0, dx0⟩ := dp_at' dir hx
              rw [List.getElem?_map, eo] at hd0
              cases hd0
              walk_at "my rn"
              refine ⟨t, N, x0, o, i, _, pg.obs, pg.ports, rfl, dp_same s09 dx0, List.all_eq_true.mp k8 o (List.mem_of_getElem? eo), hN9, PG.same s09, fun e1 H10 s10 => ?_, fun z e1 => (qe z (seq_err al eo e1)).same s09⟩
              have s010 := s09.trans s10
              have hN10 : TakenL H10 N _ := s10 _ _ hN9
              obtain ⟨z1, z2⟩ := app (Hb := H) (z := o.name) (s9.trans s10) hN10
              obtain ⟨tp, zs, rfl, htp, dzs⟩ := dpT dx0
              obtain ⟨u1, r1, rfl, b1, h1⟩ := dp1 dzs
              obtain ⟨u2, r2, rfl, b2, h2⟩ := dp1 h1
              cases dpS b2
              walk_at "my rn"
              refine Rd.ixTq (s010.seqT htp) (Rd.at_val (j := 1) rfl rfl) ?_
              walk_at "my rn"
              refine Rd.app hN10 (Rd.szl (by simp; omega)) ?_
              refine ⟨_, _, _, _, _, _, _, rfl, z1, ?_, stp.trans e1⟩
              rw [map_snoc eo, ← List.append_assoc]
              exact z2
            · rintro σ H9 ⟨y1, y7, y8, y10, y11, y12, y13, rfl, s9, hN9, al⟩
              rw [List.take_of_length_le (by omega)] at al
              walk_at "my rn"
              exact q al _ (s04.trans s9)
end


set_option Elab.async false
set_option linter.all false
set_option maxRecDepth 100000
set_option maxHeartbeats 1000000
--@@rec _check_statements _check_statement

--@@guards

abbrev S := SX.S
theorem fold_cat : ∀ (L : List (Array Nat)) (acc : Array Nat), (L.foldl (· ++ ·) acc).toList = acc.toList ++ (L.map Array.toList).flatten
  | [], acc => by simp
  | a :: L, acc => by
    rw [List.foldl_cons, fold_cat L (acc ++ a), List.map_cons, List.flatten_cons, Array.toList_append, List.append_assoc]
theorem mul_S (l : List Nat) (n : Int) (h : 0 ≤ n) : Txt.mul (S l) n = S (List.replicate n.toNat l).flatten := by
  unfold Txt.mul
  by_cases h1 : n < 1
  · have e : n = 0 := by omega
    subst e
    rfl
  · rw [if_neg h1]
    by_cases h2 : (n == 1 || (S l).length == 0) = true
    · rw [if_pos h2]
      rw [Bool.or_eq_true, beq_iff_eq, beq_iff_eq] at h2
      rcases h2 with rfl | h2
      · show S l = S (List.replicate 1 l).flatten
        simp
      · rw [SX.S_len] at h2
        have e : l = [] := List.eq_nil_of_length_eq_zero h2
        subst e
        simp
    · rw [if_neg h2]
      apply TL.ext_tl
      show ((List.replicate n.toNat l.toArray).foldl (· ++ ·) #[]).toList = _
      rw [fold_cat, List.map_replicate]
      rfl
def rMulS : R2 := fun x y H Q => ∃ (l : List Nat) (n : Int), x = .str (S l) ∧ y = .int n ∧ 0 ≤ n ∧ n ≤ 1000 ∧ l.length ≤ 100 ∧ Q (.str (S (List.replicate n.toNat l).flatten)) H
theorem op_mul_str {X : Cx} : OpR X (binaryOp .Mult) rMulS := by
  intro pins s σ H x y v u Q I rx ry h
  obtain ⟨l, n, rfl, rfl, h0, h1, hl, q⟩ := h
  obtain ⟨t, rfl⟩ := rx
  obtain ⟨t', rfl⟩ := ry
  refine SB.mul (mulOk_of 100 1000 (by rw [SX.S_len]; exact hl) (by omega) (by omega) (by decide) (by decide)) fun t2 k => ?_
  rw [mul_S l n h0]
  exact ⟨.str (S (List.replicate n.toNat l).flatten), H, I.tok _, ⟨_, rfl⟩, q⟩
theorem rep_one (k c : Nat) : (List.replicate k [c]).flatten = List.replicate k c := by
  induction k with
  | zero => rfl
  | succ k ih => rw [List.replicate_succ, List.flatten_cons, ih, List.replicate_succ]; rfl

/-! ### the programs at their limits -/
def nmS (w : Str) (k : Nat) : Str := w ++ Str.ofString (toString (k : Int))
def rowsS (w : Str) (n : Nat) : List Str := (List.range n).map (nmS w)
def plO : OpT := ⟨"f", [], [], [], none⟩
def onO (fs : List (Str × Int)) (ops : List OpT) : PgT := ⟨"s", [], [⟨"o", fs, ops⟩], [], []⟩
def jobT (b : List Stm) (cs : List (Str × Int)) : TkT := ⟨"job", 90, 80, cs, b⟩
def onT (t : TkT) : PgT := ⟨"s", [], [], [t], []⟩
def pgC (kind n : Nat) : PgT :=
  match kind with
  | 0 => ⟨"s", [], [], (rowsS "t" n).map fun z => ⟨z, 9, 9, [], []⟩, []⟩
  | 1 => ⟨"s", [], (rowsS "o" n).map fun z => ⟨z, [], []⟩, [], []⟩
  | 2 => onO [] ((rowsS "f" n).map fun z => ⟨z, [], [], [], none⟩)
  | 3 => ⟨"s", [], [⟨"o", [], [plO]⟩], [], (rowsS "i" n).map fun z => ⟨z, 9, 9, "o", "f", []⟩⟩
  | 4 => ⟨"s", (rowsS "p" n).map (fun z => (("in" : Str), z)) ++ [(("out" : Str), ("q" : Str))], [], [], []⟩
  | 5 => ⟨"s", [(("in" : Str), ("p" : Str))] ++ (rowsS "q" n).map (fun z => (("out" : Str), z)), [], [], []⟩
  | 6 => onO ((rowsS "c" n).map fun z => (z, 0)) []
  | 7 => onT (jobT [] ((rowsS "c" n).map fun z => (z, 2)))
  | 8 => onO [] [⟨"f", [], (rowsS "c" n).map fun z => (z, 0), [], none⟩]
  | _ => onO [] [⟨"f", rowsS "c" n, [], [], none⟩]
def deepS : Nat → List Stm
  | 0 => []
  | n + 1 => [.ifs (.num 1) [] (deepS n)]
def loopsS : Nat → List Stm
  | 0 => []
  | k + 1 => if k = 1 then [.ifs (.num (k : Int)) [.loop (nmS "i" k) 2 none (loopsS k)] []] else [.loop (nmS "i" k) 2 none (loopsS k)]
def unE : Nat → Ex
  | 0 => .cell "x"
  | k + 1 => .un "not" (unE k)
def pl2 (a b : Ex) : Ex := .bin "+" a b
def leftE : Ex := pl2 (pl2 (pl2 (.num 0) (.num 1)) (pl2 (.num 2) (.num 3))) (pl2 (pl2 (.num 4) (.num 5)) (.num 6))
def moreE (a : Ex) : Ex := pl2 (pl2 a (.num 0)) (pl2 (pl2 (.num 0) (.num 0)) (pl2 (.num 0) (.num 0)))
def wideE (n : Nat) : Ex := pl2 (pl2 leftE leftE) (.un "neg" (if 40 < n then moreE (.un "neg" (.num 0)) else moreE (.num 0)))
def XY : List (Str × Int) := [("x", 0), ("y", 3)]
def setX : Stm := .set (.cell "x") (.num 1)
def manyS (n : Nat) : List Stm := [.ifs (.num 1) ((List.replicate (n - 3) setX).take 60) [], .loop "i" 2 none (((List.replicate (n - 3) setX).drop 60).take 30), .write "q" (.num 1)] ++ (List.replicate (n - 3) setX).drop 90
def longN (n : Nat) : Str := (("T" : Str) ++ S (List.replicate (n - 2) [95]).flatten) ++ ("9" : Str)
def pgB (kind n : Nat) : PgT :=
  match kind with
  | 0 => ⟨"s", [("out", "q")], [], [jobT (manyS n) XY], []⟩
  | 1 => onT (jobT (deepS (n - 1)) XY)
  | 2 => onT (jobT (loopsS n) XY)
  | 3 => onT (jobT [.set (.at "y" (unE (n - 1))) (.num 1)] XY)
  | 4 => ⟨"s", [], [⟨"o", [], [⟨"f", ["a"], [], [], none⟩]⟩], [jobT [.call none "o" "f" [unE (n - 1)]] XY], []⟩
  | 5 => onT (jobT [] [("x", (n : Int))])
  | 6 => onT (jobT [.loop "i" (n : Int) none []] XY)
  | 7 => onT ⟨"t", (n : Int), 4194297, [], []⟩
  | 8 => onT ⟨"t", 50, (n : Int), [], []⟩
  | 9 => onT (jobT [.set (.cell "x") (wideE n)] XY)
  | _ => onT ⟨longN n, 9, 9, [], []⟩
def LIM : List Nat := [8, 4, 4, 2, 8, 8, 16, 16, 16, 4, 200, 8, 4, 6, 4, 64, 64, 4194304, 50, 40, 16]
def pgK (kind n : Nat) : PgT := if kind < 10 then pgC kind n else pgB (kind - 10) n
def ruleK (kind : Nat) : Str := if kind = 20 then "name" else "size"
theorem lim_good : ∀ k, k < 21 → mCheck (pgK k (LIM.getD k 0)) = none := by decide +kernel
theorem lim_bad : ∀ k, k < 21 → mCheck (pgK k (LIM.getD k 0 + 1)) = some (ruleK k) := by decide +kernel
theorem lim_ok : ∀ k, k < 21 → (pgK k (LIM.getD k 0)).ok = true ∧ (pgK k (LIM.getD k 0 + 1)).ok = true := by decide +kernel


set_option Elab.async false
set_option linter.all false
set_option maxRecDepth 100000
set_option maxHeartbeats 1000000
--@@rec _check_statements _check_statement

--@@guards

theorem dec_str (m : Nat) (h : m < 1000000000000000000) : (Str.ofString (toString ((m : Nat) : Int))).length ≤ 18 := by
  rw [SX.num_S m, SX.S_len]
  exact TL.numL_len (k := 18) (by decide) (by omega)
theorem dec_log (m : Nat) (h : m < 1000000000000000000) : ((m : Int).natAbs).log2 < 1920 := by
  by_cases h0 : m = 0
  · subst h0; decide
  · have z : ((m : Int).natAbs) = m := rfl
    rw [z]
    exact Nat.lt_trans ((Nat.log2_lt h0).mpr (show m < 2 ^ 60 by omega)) (by decide)

/-- a comprehension that makes data, item by item -/
theorem lc_dp {K : PySem.W.Frag} {J : It} {n : Nat} {G : Hp → Prop} {Y : Nat → Hp → V → Hp → Prop} (w : Walk J n G Y) (ds : List PyData) (hl : ds.length = n) {g : TG} {te : TE} {vs : List Nat} {σ : L2.St} {H1 : Hp} {D : Addr} {Qd : Hp → Prop}
    (nD : H1 D = none) (hn : n ≤ 100000) (hG : ∀ H, Same H1 H → G H)
    (hs : ∀ i x H H' (Kt : VK) d, i < n → Same H1 H → (∃ xs, H D = some (.lst xs)) → Y i H x H' → ds[i]? = some d → (∀ v H4, Same H H4 → Dp K (Cut (fun a => a = D) H4) v d → Kt v H4) → g x (wipe σ vs) H' fun σ2 H2 => wipe σ2 vs = wipe σ vs ∧ te σ2 H2 Kt)
    (hd : ∀ H (ys : List V), Same H1 H → H D = some (.lst ys) → DpAll K (Cut (fun a => a = D) H) ys ds → Qd H) :
    ∃ W : Nat → Nat → Hp → Prop, (∃ m, W 0 m (upd H1 D (.lst []))) ∧ ∀ i m H, W i m H →
      (J.stop i H ∧ Qd H) ∨ (J.go i H ∧ ∃ Nx : Hp → Prop, (∀ H', Nx H' → ∃ m', m' < m ∧ W (i + 1) m' H') ∧ ∀ x H', J.yld i H x H' → g x (wipe σ vs) H' fun σ2 H2 => wipe σ2 vs = wipe σ vs ∧ tYes σ2 H2 fun b H3 =>
        if b = true then te σ2 H3 fun y H4 => ∃ acc, H4 D = some (.lst acc) ∧ acc.length < sizeLine ∧ Nx (upd H4 D (.lst (acc ++ [y]))) else Nx H3) := by
  refine Rd.lc_rel w (fun i v H => ∃ d, ds[i]? = some d ∧ Dp K (Cut (fun a => a = D) H) v d) nD hn (fun i y H2 H3 h bt => ?_) (fun H b => hG H (b.to nD)) (fun i x H2 H3 Kt hi bt hDl y kt => ?_) (fun H ys ly hy s hD => ?_)
  · obtain ⟨d, e, h⟩ := h
    exact ⟨d, e, dp_same (Cut.keep fun b x n e => bt b x n e) h⟩
  · obtain ⟨d, hd'⟩ : ∃ d, ds[i]? = some d := ⟨_, List.getElem?_eq_getElem (by omega)⟩
    exact hs i x H2 H3 _ d hi (bt.to nD) hDl y hd' fun v H4 s4 dv => kt v H4 ⟨d, hd', dv⟩ s4
  · refine hd H ys s hD (dps_of (by omega) fun i v d h1 h2 => ?_)
    obtain ⟨d', e, h⟩ := hy i v h1
    rw [h2] at e; cases e
    exact h

/-! ### how the programs at their limits are made -/
theorem dpA_str {K : PySem.W.Frag} {H : Hp} : ∀ (zs : List Str), DpAll K H (zs.map V.str) (zs.map PyData.str)
  | [] => .nil
  | z :: r => .cons (.str z) (dpA_str r)
theorem dp_nil {K : PySem.W.Frag} {H : Hp} {a : Addr} (h : H a = some (.lst [])) : Dp K H (.ref a) (.list []) := .lst (SqL.of h) .nil
section
variable {P : Program} {w : World} {K : PySem.W.Frag} {mg : Str → Option Value} {base : Heap}
def sp__law_rows (K : PySem.W.Frag) : Sp := fun vs H Q _ => ∃ (w_ : Str) (n : Nat), vs = [.str w_, .int n] ∧ w_.length ≤ 10 ∧ n ≤ 100 ∧ ∀ (L : Addr) H', Same H H' → H L = none → H' L = some (.lst ((rowsS w_ n).map V.str)) → Q (.ref L) H'
theorem ok__law_rows (T : Top P K mg) : FnOk P w K mg base CX0 1 T.a__law_rows T.d__law_rows ["word", "many"]  (sp__law_rows K) := by
  refine T.F__law_rows.ok sc__law_rows (fun vs H Q E h => ?_) (fun cdv A outer s H vs Q E hr h => ?_)
  · obtain ⟨_, _, rfl, _⟩ := h
    rfl
  · obtain ⟨w_, n, rfl, lw, ln, q⟩ := h
    refine ⟨_, (pss_one (ps_ret (pe_lc (own := [("k", 2)]) (g := gName 2) (tt := tYes) rfl sc__law_rows.nd (pi_range1 (by rfl) T.m_range (pa_cons (pv 1) pa_nil)) (blkOk_by (N := ["word", "many", "k"]) (sc := defScope s__law_rows) (by decide +kernel)) (fun _ _ _ _ _ => pg_name (i := 2) sc__law_rows.nd rfl (Or.inl rfl)) (fun _ _ _ _ _ => pts_nil) (fun _ _ _ _ _ => (pe_op op_add_str (pv 0) (pe_callTy call_str_int (by rfl) T.m_str (by decide +kernel) (pa_cons (pv 2) pa_nil))))))), ?_⟩
    rw [show ∀ a0 a1 : V, L2.start ["word", "many", "k"] [a0, a1] = [some a0, some a1, none] from fun _ _ => rfl]
    walk_at "my rn"
    refine ⟨by omega, by omega, fun D nD => ?_⟩
    rw [Int.toNat_natCast]
    refine Rd.lc_rel walk_range (fun j v _ => v = .str (nmS w_ j)) nD (by omega) (fun _ _ _ _ h _ => h) (fun _ _ => trivial) (fun j x Hjo Hj Kt hj b hDl y kt => ?_) (fun H1 ys ly hy s1 hD => ?_)
    · obtain ⟨rfl, e3⟩ := Rd.zr y
      subst e3
      have lj : (Str.ofString (toString ((j : Nat) : Int))).length ≤ 18 := dec_str j (by omega)
      simp only [List.map_cons, List.map_nil, L2.wipe, List.set_cons_succ, List.set_cons_zero]
      walk_at "my rn"
      refine ⟨rfl, ?_⟩
      walk_at "my rn"
      refine ⟨dec_log j (by omega), _, _, rfl, rfl, Rd.sz (by omega), ?_⟩
      exact kt _ _ rfl (Same.refl _)
    · have ey : ys = (rowsS w_ n).map V.str := by
        refine List.ext_getElem? fun i => ?_
        unfold rowsS
        rw [List.getElem?_map, List.getElem?_map]
        by_cases hi : i < n
        · have e := List.getElem?_eq_getElem (l := ys) (i := i) (by omega)
          rw [List.getElem?_range hi, e, hy i _ e]; rfl
        · rw [List.getElem?_eq_none (by omega), List.getElem?_eq_none (by rw [List.length_range]; omega)]; rfl
      rw [ey] at hD
      exact q D H1 s1 nD hD
def sp__law_task (K : PySem.W.Frag) : Sp := fun vs H Q _ => ∃ (a b : V) (bs : List Stm) (cs : List (Str × Int)), vs = [a, b] ∧ Dp K H a (.list (stmsD bs)) ∧ Dp K H b (cellsD cs) ∧ ∀ v H', Same H H' → Dp K H' v (jobT bs cs).d → Q v H'
theorem ok__law_task (T : Top P K mg) : FnOk P w K mg base CX0 1 T.a__law_task T.d__law_task ["body", "cells"]  (sp__law_task K) := by
  refine T.F__law_task.ok sc__law_task (fun vs H Q E h => ?_) (fun cdv A outer s H vs Q E hr h => ?_)
  · obtain ⟨_, _, _, _, rfl, _⟩ := h
    rfl
  · obtain ⟨a, b, bs, cs, rfl, da, db, q⟩ := h
    refine ⟨_, (pss_one (ps_ret (pe_tup (pa_cons pe_str (pa_cons pe_str (pa_cons pe_int (pa_cons pe_int (pa_cons (pv 1) (pa_cons (pv 0) pa_nil))))))))), ?_⟩
    rw [show ∀ a0 a1 : V, L2.start ["body", "cells"] [a0, a1] = [some a0, some a1] from fun _ _ => rfl]
    walk_at "my rn"
    intro t H1 n1 s1 h1
    exact q _ _ s1 (.tup (SqT.of h1) (.cons (.str _) (.cons (.str _) (.cons (.int _) (.cons (.int _) (.cons (dp_same s1 db) (.cons (dp_same s1 da) .nil)))))))
def sp__law_whole (K : PySem.W.Frag) : Sp := fun vs H Q _ => ∃ (a b c d : V) (ps : List (Str × Str)) (os : List ObT) (ts : List TkT) (is : List InT), vs = [a, b, c, d] ∧ Dp K H a (.list (ps.map portD)) ∧ Dp K H b (.list (os.map ObT.d)) ∧ Dp K H c (.list (ts.map TkT.d)) ∧ Dp K H d (.list (is.map InT.d)) ∧
  ∀ v H', Same H H' → Dp K H' v (PgT.d ⟨"s", ps, os, ts, is⟩) → Q v H'
theorem ok__law_whole (T : Top P K mg) : FnOk P w K mg base CX0 1 T.a__law_whole T.d__law_whole ["ports", "objects", "tasks", "interrupts"]  (sp__law_whole K) := by
  refine T.F__law_whole.ok sc__law_whole (fun vs H Q E h => ?_) (fun cdv A outer s H vs Q E hr h => ?_)
  · obtain ⟨_, _, _, _, _, _, _, _, rfl, _⟩ := h
    rfl
  · obtain ⟨a, b, c, d, ps, os, ts, is, rfl, da, db, dc, dd, q⟩ := h
    refine ⟨_, (pss_one (ps_ret (pe_tup (pa_cons pe_str (pa_cons pe_str (pa_cons (pv 0) (pa_cons (pv 1) (pa_cons (pv 2) (pa_cons (pv 3) pa_nil))))))))), ?_⟩
    rw [show ∀ a0 a1 a2 a3 : V, L2.start ["ports", "objects", "tasks", "interrupts"] [a0, a1, a2, a3] = [some a0, some a1, some a2, some a3] from fun _ _ _ _ => rfl]
    walk_at "my rn"
    intro t H1 n1 s1 h1
    exact q _ _ s1 (.tup (SqT.of h1) (.cons (.str _) (.cons (.str _) (.cons (dp_same s1 da) (.cons (dp_same s1 db) (.cons (dp_same s1 dc) (.cons (dp_same s1 dd) .nil)))))))
def sp__law_operation (K : PySem.W.Frag) : Sp := fun vs H Q _ => ∃ (z : Str) (a b c : V) (ps : List Str) (cs : List (Str × Int)) (bs : List Stm), vs = [.str z, a, b, c] ∧ Dp K H a (.list (ps.map PyData.str)) ∧ Dp K H b (cellsD cs) ∧ Dp K H c (.list (stmsD bs)) ∧
  ∀ (t : Addr) H', Same H H' → H t = none → H' t = some (.tup [.str "operation", .str z, a, b, c, .non]) → Q (.ref t) H'
theorem ok__law_operation (T : Top P K mg) : FnOk P w K mg base CX0 1 T.a__law_operation T.d__law_operation ["name", "params", "cells", "body"]  (sp__law_operation K) := by
  refine T.F__law_operation.ok sc__law_operation (fun vs H Q E h => ?_) (fun cdv A outer s H vs Q E hr h => ?_)
  · obtain ⟨_, _, _, _, _, _, _, rfl, _⟩ := h
    rfl
  · obtain ⟨z, a, b, c, ps, cs, bs, rfl, da, db, dc, q⟩ := h
    refine ⟨_, (pss_one (ps_ret (pe_tup (pa_cons pe_str (pa_cons (pv 0) (pa_cons (pv 1) (pa_cons (pv 2) (pa_cons (pv 3) (pa_cons pe_non pa_nil))))))))), ?_⟩
    rw [show ∀ a0 a1 a2 a3 : V, L2.start ["name", "params", "cells", "body"] [a0, a1, a2, a3] = [some a0, some a1, some a2, some a3] from fun _ _ _ _ => rfl]
    walk_at "my rn"
    intro t H1 n1 s1 h1
    exact q _ _ s1 n1 h1
theorem opd {K : PySem.W.Frag} {H H' : Hp} {z : Str} {a b c : V} {ps : List Str} {cs : List (Str × Int)} {bs : List Stm} {t : Addr} (s : Same H H') (h : H' t = some (.tup [.str "operation", .str z, a, b, c, .non])) (da : Dp K H a (.list (ps.map PyData.str))) (db : Dp K H b (cellsD cs)) (dc : Dp K H c (.list (stmsD bs))) : Dp K H' (.ref t) (OpT.d ⟨z, ps, cs, bs, none⟩) :=
  .tup (SqT.of h) (.cons (.str _) (.cons (.str _) (.cons (dp_same s da) (.cons (dp_same s db) (.cons (dp_same s dc) (.cons .non .nil))))))
theorem ofD {H H1 : Hp} {D l : Addr} (hD : ∃ xs, H D = some (.lst xs)) (s : Same H H1) (n : H1 l = none) : l ≠ D := fun z => by
  obtain ⟨xs, h⟩ := hD
  rw [z, s _ _ h] at n
  cases n
theorem rows_len (w_ : Str) (n : Nat) : (rowsS w_ n).length = n := by unfold rowsS; rw [List.length_map, List.length_range]
theorem rows_at {w_ : Str} {n j : Nat} {x : V} (h : ((rowsS w_ n).map V.str)[j]? = some x) : ∃ z, (rowsS w_ n)[j]? = some z ∧ x = .str z := by
  rw [List.getElem?_map] at h
  cases e : (rowsS w_ n)[j]? with
  | none => rw [e] at h; cases h
  | some z => rw [e] at h; exact ⟨z, rfl, (Option.some.inj h).symm⟩
def sp__law_counts (K : PySem.W.Frag) : Sp := fun vs H Q _ => ∃ (k n : Nat), vs = [.int k, .int n] ∧ k < 10 ∧ n ≤ 50 ∧ ∀ v H', Same H H' → Dp K H' v (pgC k n).d → Q v H'
theorem ok__law_counts (T : Top P K mg) : FnOk P w K mg base CX0 2 T.a__law_counts T.d__law_counts ["kind", "n"]  (sp__law_counts K) := by
  refine T.F__law_counts.ok sc__law_counts (fun vs H Q E h => ?_) (fun cdv A outer s H vs Q E hr h => ?_)
  · obtain ⟨_, _, rfl, _⟩ := h
    rfl
  · obtain ⟨k, n, rfl, hk, hn, q⟩ := h
    refine ⟨_, (pss_cons (ps_set (i := 2) sc__law_counts.nd rfl (by first | exact Or.inl rfl | exact Or.inr rfl) (pe_call (ok__law_operation T) (hr.mono (by decide)) (by rfl) T.g__law_operation T.F__law_operation.kp T.b__law_operation .nil pass0 (pa_cons pe_str (pa_cons (pe_lst pa_nil) (pa_cons (pe_lst pa_nil) (pa_cons (pe_lst pa_nil) pa_nil))))))
  (pss_cons (ps_if (pt_cmpR op_eq (pv 0) pe_int (nomark _))
  (pss_one (ps_ret (pe_call (ok__law_whole T) (hr.mono (by decide)) (by rfl) T.g__law_whole T.F__law_whole.kp T.b__law_whole .nil pass0 (pa_cons (pe_lst pa_nil) (pa_cons (pe_lst pa_nil) (pa_cons (pe_lc (own := [("name", 3)]) (g := gName 3) (tt := tYes) rfl sc__law_counts.nd (pi_list (pe_call (ok__law_rows T) (hr.mono (by decide)) (by rfl) T.g__law_rows T.F__law_rows.kp T.b__law_rows .nil pass0 (pa_cons pe_str (pa_cons (pv 1) pa_nil)))) (blkOk_by (N := ["kind", "n", "plain", "name", "rows"]) (sc := defScope s__law_counts) (by decide +kernel)) (fun _ _ _ _ _ => pg_name (i := 3) sc__law_counts.nd rfl (Or.inl rfl)) (fun _ _ _ _ _ => pts_nil) (fun _ _ _ _ _ => (pe_tup (pa_cons pe_str (pa_cons (pv 3) (pa_cons pe_int (pa_cons pe_int (pa_cons (pe_lst pa_nil) (pa_cons (pe_lst pa_nil) pa_nil))))))))) (pa_cons (pe_lst pa_nil) pa_nil)))))))
  pss_nil)
  (pss_cons (ps_if (pt_cmpR op_eq (pv 0) pe_int (nomark _))
  (pss_one (ps_ret (pe_call (ok__law_whole T) (hr.mono (by decide)) (by rfl) T.g__law_whole T.F__law_whole.kp T.b__law_whole .nil pass0 (pa_cons (pe_lst pa_nil) (pa_cons (pe_lc (own := [("name", 3)]) (g := gName 3) (tt := tYes) rfl sc__law_counts.nd (pi_list (pe_call (ok__law_rows T) (hr.mono (by decide)) (by rfl) T.g__law_rows T.F__law_rows.kp T.b__law_rows .nil pass0 (pa_cons pe_str (pa_cons (pv 1) pa_nil)))) (blkOk_by (N := ["kind", "n", "plain", "name", "rows"]) (sc := defScope s__law_counts) (by decide +kernel)) (fun _ _ _ _ _ => pg_name (i := 3) sc__law_counts.nd rfl (Or.inl rfl)) (fun _ _ _ _ _ => pts_nil) (fun _ _ _ _ _ => (pe_tup (pa_cons pe_str (pa_cons (pv 3) (pa_cons (pe_lst pa_nil) (pa_cons (pe_lst pa_nil) pa_nil))))))) (pa_cons (pe_lst pa_nil) (pa_cons (pe_lst pa_nil) pa_nil)))))))
  pss_nil)
  (pss_cons (ps_if (pt_cmpR op_eq (pv 0) pe_int (nomark _))
  (pss_cons (ps_setLc (i := 4) (own := [("name", 3)]) (g := gName 3) (tt := tYes) rfl sc__law_counts.nd rfl rfl (sw_true rfl rfl rfl (by decide +kernel)) (pi_list (pe_call (ok__law_rows T) (hr.mono (by decide)) (by rfl) T.g__law_rows T.F__law_rows.kp T.b__law_rows .nil pass0 (pa_cons pe_str (pa_cons (pv 1) pa_nil)))) (blkOk_by (N := ["kind", "n", "plain", "name", "rows"]) (sc := defScope s__law_counts) (by decide +kernel)) (fun _ _ _ _ _ => pg_name (i := 3) sc__law_counts.nd rfl (Or.inl rfl)) (fun _ _ _ _ _ => pts_nil) (fun _ _ _ _ _ => (pe_call (ok__law_operation T) (hr.mono (by decide)) (by rfl) T.g__law_operation T.F__law_operation.kp T.b__law_operation .nil pass0 (pa_cons (pv 3) (pa_cons (pe_lst pa_nil) (pa_cons (pe_lst pa_nil) (pa_cons (pe_lst pa_nil) pa_nil)))))))
  (pss_one (ps_ret (pe_call (ok__law_whole T) (hr.mono (by decide)) (by rfl) T.g__law_whole T.F__law_whole.kp T.b__law_whole .nil pass0 (pa_cons (pe_lst pa_nil) (pa_cons (pe_lst (pa_cons (pe_tup (pa_cons pe_str (pa_cons pe_str (pa_cons (pe_lst pa_nil) (pa_cons (pv 4) pa_nil))))) pa_nil)) (pa_cons (pe_lst pa_nil) (pa_cons (pe_lst pa_nil) pa_nil))))))))
  pss_nil)
  (pss_cons (ps_if (pt_cmpR op_eq (pv 0) pe_int (nomark _))
  (pss_cons (ps_setLc (i := 4) (own := [("name", 3)]) (g := gName 3) (tt := tYes) rfl sc__law_counts.nd rfl rfl (sw_true rfl rfl rfl (by decide +kernel)) (pi_list (pe_call (ok__law_rows T) (hr.mono (by decide)) (by rfl) T.g__law_rows T.F__law_rows.kp T.b__law_rows .nil pass0 (pa_cons pe_str (pa_cons (pv 1) pa_nil)))) (blkOk_by (N := ["kind", "n", "plain", "name", "rows"]) (sc := defScope s__law_counts) (by decide +kernel)) (fun _ _ _ _ _ => pg_name (i := 3) sc__law_counts.nd rfl (Or.inl rfl)) (fun _ _ _ _ _ => pts_nil) (fun _ _ _ _ _ => (pe_tup (pa_cons pe_str (pa_cons (pv 3) (pa_cons pe_int (pa_cons pe_int (pa_cons pe_str (pa_cons pe_str (pa_cons (pe_lst pa_nil) pa_nil))))))))))
  (pss_one (ps_ret (pe_call (ok__law_whole T) (hr.mono (by decide)) (by rfl) T.g__law_whole T.F__law_whole.kp T.b__law_whole .nil pass0 (pa_cons (pe_lst pa_nil) (pa_cons (pe_lst (pa_cons (pe_tup (pa_cons pe_str (pa_cons pe_str (pa_cons (pe_lst pa_nil) (pa_cons (pe_lst (pa_cons (pv 2) pa_nil)) pa_nil))))) pa_nil)) (pa_cons (pe_lst pa_nil) (pa_cons (pv 4) pa_nil))))))))
  pss_nil)
  (pss_cons (ps_if (pt_cmpR op_eq (pv 0) pe_int (nomark _))
  (pss_one (ps_ret (pe_call (ok__law_whole T) (hr.mono (by decide)) (by rfl) T.g__law_whole T.F__law_whole.kp T.b__law_whole .nil pass0 (pa_cons (pe_op op_catQ (pe_lc (own := [("name", 3)]) (g := gName 3) (tt := tYes) rfl sc__law_counts.nd (pi_list (pe_call (ok__law_rows T) (hr.mono (by decide)) (by rfl) T.g__law_rows T.F__law_rows.kp T.b__law_rows .nil pass0 (pa_cons pe_str (pa_cons (pv 1) pa_nil)))) (blkOk_by (N := ["kind", "n", "plain", "name", "rows"]) (sc := defScope s__law_counts) (by decide +kernel)) (fun _ _ _ _ _ => pg_name (i := 3) sc__law_counts.nd rfl (Or.inl rfl)) (fun _ _ _ _ _ => pts_nil) (fun _ _ _ _ _ => (pe_tup (pa_cons pe_str (pa_cons (pv 3) pa_nil))))) (pe_lst (pa_cons (pe_tup (pa_cons pe_str (pa_cons pe_str pa_nil))) pa_nil))) (pa_cons (pe_lst pa_nil) (pa_cons (pe_lst pa_nil) (pa_cons (pe_lst pa_nil) pa_nil)))))))
  pss_nil)
  (pss_cons (ps_if (pt_cmpR op_eq (pv 0) pe_int (nomark _))
  (pss_one (ps_ret (pe_call (ok__law_whole T) (hr.mono (by decide)) (by rfl) T.g__law_whole T.F__law_whole.kp T.b__law_whole .nil pass0 (pa_cons (pe_op op_catQ (pe_lst (pa_cons (pe_tup (pa_cons pe_str (pa_cons pe_str pa_nil))) pa_nil)) (pe_lc (own := [("name", 3)]) (g := gName 3) (tt := tYes) rfl sc__law_counts.nd (pi_list (pe_call (ok__law_rows T) (hr.mono (by decide)) (by rfl) T.g__law_rows T.F__law_rows.kp T.b__law_rows .nil pass0 (pa_cons pe_str (pa_cons (pv 1) pa_nil)))) (blkOk_by (N := ["kind", "n", "plain", "name", "rows"]) (sc := defScope s__law_counts) (by decide +kernel)) (fun _ _ _ _ _ => pg_name (i := 3) sc__law_counts.nd rfl (Or.inl rfl)) (fun _ _ _ _ _ => pts_nil) (fun _ _ _ _ _ => (pe_tup (pa_cons pe_str (pa_cons (pv 3) pa_nil)))))) (pa_cons (pe_lst pa_nil) (pa_cons (pe_lst pa_nil) (pa_cons (pe_lst pa_nil) pa_nil)))))))
  pss_nil)
  (pss_cons (ps_if (pt_cmpR op_eq (pv 0) pe_int (nomark _))
  (pss_one (ps_ret (pe_call (ok__law_whole T) (hr.mono (by decide)) (by rfl) T.g__law_whole T.F__law_whole.kp T.b__law_whole .nil pass0 (pa_cons (pe_lst pa_nil) (pa_cons (pe_lst (pa_cons (pe_tup (pa_cons pe_str (pa_cons pe_str (pa_cons (pe_lc (own := [("name", 3)]) (g := gName 3) (tt := tYes) rfl sc__law_counts.nd (pi_list (pe_call (ok__law_rows T) (hr.mono (by decide)) (by rfl) T.g__law_rows T.F__law_rows.kp T.b__law_rows .nil pass0 (pa_cons pe_str (pa_cons (pv 1) pa_nil)))) (blkOk_by (N := ["kind", "n", "plain", "name", "rows"]) (sc := defScope s__law_counts) (by decide +kernel)) (fun _ _ _ _ _ => pg_name (i := 3) sc__law_counts.nd rfl (Or.inl rfl)) (fun _ _ _ _ _ => pts_nil) (fun _ _ _ _ _ => (pe_tup (pa_cons (pv 3) (pa_cons pe_int pa_nil))))) (pa_cons (pe_lst pa_nil) pa_nil))))) pa_nil)) (pa_cons (pe_lst pa_nil) (pa_cons (pe_lst pa_nil) pa_nil)))))))
  pss_nil)
  (pss_cons (ps_if (pt_cmpR op_eq (pv 0) pe_int (nomark _))
  (pss_one (ps_ret (pe_call (ok__law_whole T) (hr.mono (by decide)) (by rfl) T.g__law_whole T.F__law_whole.kp T.b__law_whole .nil pass0 (pa_cons (pe_lst pa_nil) (pa_cons (pe_lst pa_nil) (pa_cons (pe_lst (pa_cons (pe_call (ok__law_task T) (hr.mono (by decide)) (by rfl) T.g__law_task T.F__law_task.kp T.b__law_task .nil pass0 (pa_cons (pe_lst pa_nil) (pa_cons (pe_lc (own := [("name", 3)]) (g := gName 3) (tt := tYes) rfl sc__law_counts.nd (pi_list (pe_call (ok__law_rows T) (hr.mono (by decide)) (by rfl) T.g__law_rows T.F__law_rows.kp T.b__law_rows .nil pass0 (pa_cons pe_str (pa_cons (pv 1) pa_nil)))) (blkOk_by (N := ["kind", "n", "plain", "name", "rows"]) (sc := defScope s__law_counts) (by decide +kernel)) (fun _ _ _ _ _ => pg_name (i := 3) sc__law_counts.nd rfl (Or.inl rfl)) (fun _ _ _ _ _ => pts_nil) (fun _ _ _ _ _ => (pe_tup (pa_cons (pv 3) (pa_cons pe_int pa_nil))))) pa_nil))) pa_nil)) (pa_cons (pe_lst pa_nil) pa_nil)))))))
  pss_nil)
  (pss_cons (ps_if (pt_cmpR op_eq (pv 0) pe_int (nomark _))
  (pss_cons (ps_set (i := 4) sc__law_counts.nd rfl (by first | exact Or.inl rfl | exact Or.inr rfl) (pe_lst (pa_cons (pe_call (ok__law_operation T) (hr.mono (by decide)) (by rfl) T.g__law_operation T.F__law_operation.kp T.b__law_operation .nil pass0 (pa_cons pe_str (pa_cons (pe_lst pa_nil) (pa_cons (pe_lc (own := [("name", 3)]) (g := gName 3) (tt := tYes) rfl sc__law_counts.nd (pi_list (pe_call (ok__law_rows T) (hr.mono (by decide)) (by rfl) T.g__law_rows T.F__law_rows.kp T.b__law_rows .nil pass0 (pa_cons pe_str (pa_cons (pv 1) pa_nil)))) (blkOk_by (N := ["kind", "n", "plain", "name", "rows"]) (sc := defScope s__law_counts) (by decide +kernel)) (fun _ _ _ _ _ => pg_name (i := 3) sc__law_counts.nd rfl (Or.inl rfl)) (fun _ _ _ _ _ => pts_nil) (fun _ _ _ _ _ => (pe_tup (pa_cons (pv 3) (pa_cons pe_int pa_nil))))) (pa_cons (pe_lst pa_nil) pa_nil))))) pa_nil)))
  (pss_one (ps_ret (pe_call (ok__law_whole T) (hr.mono (by decide)) (by rfl) T.g__law_whole T.F__law_whole.kp T.b__law_whole .nil pass0 (pa_cons (pe_lst pa_nil) (pa_cons (pe_lst (pa_cons (pe_tup (pa_cons pe_str (pa_cons pe_str (pa_cons (pe_lst pa_nil) (pa_cons (pv 4) pa_nil))))) pa_nil)) (pa_cons (pe_lst pa_nil) (pa_cons (pe_lst pa_nil) pa_nil))))))))
  pss_nil)
  (pss_cons (ps_set (i := 4) sc__law_counts.nd rfl (by first | exact Or.inl rfl | exact Or.inr rfl) (pe_lst (pa_cons (pe_call (ok__law_operation T) (hr.mono (by decide)) (by rfl) T.g__law_operation T.F__law_operation.kp T.b__law_operation .nil pass0 (pa_cons pe_str (pa_cons (pe_call (ok__law_rows T) (hr.mono (by decide)) (by rfl) T.g__law_rows T.F__law_rows.kp T.b__law_rows .nil pass0 (pa_cons pe_str (pa_cons (pv 1) pa_nil))) (pa_cons (pe_lst pa_nil) (pa_cons (pe_lst pa_nil) pa_nil))))) pa_nil)))
  (pss_one (ps_ret (pe_call (ok__law_whole T) (hr.mono (by decide)) (by rfl) T.g__law_whole T.F__law_whole.kp T.b__law_whole .nil pass0 (pa_cons (pe_lst pa_nil) (pa_cons (pe_lst (pa_cons (pe_tup (pa_cons pe_str (pa_cons pe_str (pa_cons (pe_lst pa_nil) (pa_cons (pv 4) pa_nil))))) pa_nil)) (pa_cons (pe_lst pa_nil) (pa_cons (pe_lst pa_nil) pa_nil)))))))))))))))))), ?_⟩
    rw [show ∀ a0 a1 : V, L2.start ["kind", "n", "plain", "name", "rows"] [a0, a1] = [some a0, some a1, none, none, none] from fun _ _ => rfl]
    walk_at "my rn"
    intro a0 G1 n1 s1 h1
    walk_at "my rn"
    intro a1 G2 n2 s2 h2
    walk_at "my rn"
    intro a2 G3 n3 s3 h3
    walk_at "my rn"
    refine ⟨"f", _, _, _, [], [], [], rfl, dp_nil ((s2.trans s3) _ _ h1), dp_nil (s3 _ _ h2), dp_nil h3, fun tp G4 s4 ntp htp => ?_⟩
    have S4 : Same H G4 := s1.trans (s2.trans (s3.trans s4))
    have dpl : Dp K G4 (.ref tp) plO.d := opd s4 htp (dp_nil ((s2.trans s3) _ _ h1)) (dp_nil (s3 _ _ h2)) (dp_nil h3)
    walk_at "my rn"
    refine Rd.ifD (fun e => ?_) fun e0 => ?_
    · obtain rfl : k = 0 := by have := V.int.inj e; omega
      walk_at "my rn"
      intro b0 H1 m1 z1 w1
      walk_at "my rn"
      intro b1 H2 m2 z2 w2
      walk_at "my rn"
      refine ⟨"t", n, rfl, by decide, by omega, fun L H3 z3 nL hL => ?_⟩
      walk_at "my rn"
      intro D nD
      refine lc_dp (K := K) (walk_list (xs := (rowsS "t" n).map V.str)) ((rowsS "t" n).map (fun z => TkT.d ⟨z, 9, 9, [], []⟩)) (by rw [List.length_map, List.length_map]) nD (by rw [List.length_map, rows_len]; omega) (fun H s => s.seq (SqL.of hL)) (fun j x Hj Hj' Kt d hj sj hDl y hd kt => ?_) (fun H9 ys s9 hD9 dys => ?_)
      · obtain ⟨rfl, hx⟩ := y
        obtain ⟨z, hz, rfl⟩ := rows_at hx
        rw [List.getElem?_map, hz] at hd
        cases hd
        simp only [List.map_cons, List.map_nil, L2.wipe, List.set_cons_succ, List.set_cons_zero]
        walk_at "my rn"
        refine ⟨rfl, ?_⟩
        walk_at "my rn"
        intro e1 J1 r1 x1 y1
        walk_at "my rn"
        intro e2 J2 r2 x2 y2
        walk_at "my rn"
        intro tt J3 r3 x3 y3
        exact kt _ _ (x1.trans (x2.trans x3)) (.tup (SqT.of (Cut.at (ofD hDl (x1.trans x2) r3) y3)) (.cons (.str _) (.cons (.str _) (.cons (.int _) (.cons (.int _) (.cons (.lst (SqL.of (Cut.at (ofD hDl (Same.refl _) r1) ((x2.trans x3) _ _ y1))) .nil) (.cons (.lst (SqL.of (Cut.at (ofD hDl x1 r2) (x3 _ _ y2))) .nil) .nil)))))))
      have dys := dps_same Cut.sub dys
      walk_at "my rn"
      intro b3 H10 m10 z10 w10
      walk_at "my rn"
      refine ⟨_, _, _, _, [], [], (rowsS "t" n).map fun z => ⟨z, 9, 9, [], []⟩, [], rfl, dp_nil ((z2.trans (z3.trans (s9.trans z10))) _ _ w1), dp_nil ((z3.trans (s9.trans z10)) _ _ w2), .lst (SqL.of (z10 _ _ hD9)) (by rw [List.map_map]; exact dps_same z10 dys), dp_nil w10, fun v HZ sZ dv => ?_⟩
      exact q _ _ (S4.trans (z1.trans (z2.trans (z3.trans (s9.trans (z10.trans sZ)))))) dv
    walk_at "my rn"
    refine Rd.ifD (fun e => ?_) fun e1 => ?_
    · obtain rfl : k = 1 := by have := V.int.inj e; omega
      walk_at "my rn"
      intro b0 H1 m1 z1 w1
      walk_at "my rn"
      refine ⟨"o", n, rfl, by decide, by omega, fun L H3 z3 nL hL => ?_⟩
      walk_at "my rn"
      intro D nD
      refine lc_dp (K := K) (walk_list (xs := (rowsS "o" n).map V.str)) ((rowsS "o" n).map (fun z => ObT.d ⟨z, [], []⟩)) (by rw [List.length_map, List.length_map]) nD (by rw [List.length_map, rows_len]; omega) (fun H s => s.seq (SqL.of hL)) (fun j x Hj Hj' Kt d hj sj hDl y hd kt => ?_) (fun H9 ys s9 hD9 dys => ?_)
      · obtain ⟨rfl, hx⟩ := y
        obtain ⟨z, hz, rfl⟩ := rows_at hx
        rw [List.getElem?_map, hz] at hd
        cases hd
        simp only [List.map_cons, List.map_nil, L2.wipe, List.set_cons_succ, List.set_cons_zero]
        walk_at "my rn"
        refine ⟨rfl, ?_⟩
        walk_at "my rn"
        intro e1 J1 r1 x1 y1
        walk_at "my rn"
        intro e2 J2 r2 x2 y2
        walk_at "my rn"
        intro tt J3 r3 x3 y3
        exact kt _ _ (x1.trans (x2.trans x3)) (.tup (SqT.of (Cut.at (ofD hDl (x1.trans x2) r3) y3)) (.cons (.str _) (.cons (.str _) (.cons (.lst (SqL.of (Cut.at (ofD hDl (Same.refl _) r1) ((x2.trans x3) _ _ y1))) .nil) (.cons (.lst (SqL.of (Cut.at (ofD hDl x1 r2) (x3 _ _ y2))) .nil) .nil)))))
      have dys := dps_same Cut.sub dys
      walk_at "my rn"
      intro b2 H10 m10 z10 w10
      walk_at "my rn"
      intro b3 H11 m11 z11 w11
      walk_at "my rn"
      refine ⟨_, _, _, _, [], (rowsS "o" n).map fun z => ⟨z, [], []⟩, [], [], rfl, dp_nil ((z3.trans (s9.trans (z10.trans z11))) _ _ w1), .lst (SqL.of ((z10.trans z11) _ _ hD9)) (by rw [List.map_map]; exact dps_same (z10.trans z11) dys), dp_nil (z11 _ _ w10), dp_nil w11, fun v HZ sZ dv => ?_⟩
      exact q _ _ (S4.trans (z1.trans (z3.trans (s9.trans (z10.trans (z11.trans sZ)))))) dv
    walk_at "my rn"
    refine Rd.ifD (fun e => ?_) fun e2 => ?_
    · obtain rfl : k = 2 := by have := V.int.inj e; omega
      walk_at "my rn"
      refine ⟨"f", n, rfl, by decide, by omega, fun L H3 z3 nL hL => ?_⟩
      walk_at "my rn"
      intro D nD
      refine lc_dp (K := K) (walk_list (xs := (rowsS "f" n).map V.str)) ((rowsS "f" n).map (fun z => OpT.d ⟨z, [], [], [], none⟩)) (by rw [List.length_map, List.length_map]) nD (by rw [List.length_map, rows_len]; omega) (fun H s => s.seq (SqL.of hL)) (fun j x Hj Hj' Kt d hj sj hDl y hd kt => ?_) (fun H9 ys s9 hD9 dys => ?_)
      · obtain ⟨rfl, hx⟩ := y
        obtain ⟨z, hz, rfl⟩ := rows_at hx
        rw [List.getElem?_map, hz] at hd
        cases hd
        simp only [List.map_cons, List.map_nil, L2.wipe, List.set_cons_succ, List.set_cons_zero]
        walk_at "my rn"
        refine ⟨rfl, ?_⟩
        walk_at "my rn"
        intro e1 J1 r1 x1 y1
        walk_at "my rn"
        intro e2 J2 r2 x2 y2
        walk_at "my rn"
        intro e3 J3 r3 x3 y3
        walk_at "my rn"
        refine ⟨z, _, _, _, [], [], [], rfl, dp_nil ((x2.trans x3) _ _ y1), dp_nil (x3 _ _ y2), dp_nil y3, fun tt J4 x4 r4 y4 => ?_⟩
        exact kt _ _ (x1.trans (x2.trans (x3.trans x4))) (.tup (SqT.of (Cut.at (ofD hDl (x1.trans (x2.trans x3)) r4) y4)) (.cons (.str _) (.cons (.str _) (.cons (.lst (SqL.of (Cut.at (ofD hDl (Same.refl _) r1) ((x2.trans (x3.trans x4)) _ _ y1))) .nil) (.cons (.lst (SqL.of (Cut.at (ofD hDl x1 r2) ((x3.trans x4) _ _ y2))) .nil) (.cons (.lst (SqL.of (Cut.at (ofD hDl (x1.trans x2) r3) (x4 _ _ y3))) .nil) (.cons .non .nil)))))))
      have dys := dps_same Cut.sub dys
      walk_at "my rn"
      intro b0 H10 m10 z10 w10
      walk_at "my rn"
      intro b1 H11 m11 z11 w11
      walk_at "my rn"
      intro to H12 m12 z12 w12
      walk_at "my rn"
      intro bo H13 m13 z13 w13
      walk_at "my rn"
      intro b2 H14 m14 z14 w14
      walk_at "my rn"
      intro b3 H15 m15 z15 w15
      walk_at "my rn"
      have y1415 := z14.trans z15
      have y1315 := z13.trans y1415
      have y1215 := z12.trans y1315
      have y1115 := z11.trans y1215
      have y1015 := z10.trans y1115
      refine ⟨_, _, _, _, [], [⟨"o", [], (rowsS "f" n).map fun z => ⟨z, [], [], [], none⟩⟩], [], [], rfl, dp_nil (y1115 _ _ w10), .lst (SqL.of (y1415 _ _ w13)) (.cons (.tup (SqT.of (y1315 _ _ w12)) (.cons (.str _) (.cons (.str _) (.cons (.lst (SqL.of (y1215 _ _ w11)) .nil) (.cons (.lst (SqL.of (y1015 _ _ hD9)) (by rw [List.map_map]; exact dps_same y1015 dys)) .nil))))) .nil), dp_nil (z15 _ _ w14), dp_nil w15, fun v HZ sZ dv => ?_⟩
      exact q _ _ (S4.trans (z3.trans (s9.trans (y1015.trans sZ)))) dv
    walk_at "my rn"
    refine Rd.ifD (fun e => ?_) fun e3 => ?_
    · obtain rfl : k = 3 := by have := V.int.inj e; omega
      walk_at "my rn"
      refine ⟨"i", n, rfl, by decide, by omega, fun L H3 z3 nL hL => ?_⟩
      walk_at "my rn"
      intro D nD
      refine lc_dp (K := K) (walk_list (xs := (rowsS "i" n).map V.str)) ((rowsS "i" n).map (fun z => InT.d ⟨z, 9, 9, "o", "f", []⟩)) (by rw [List.length_map, List.length_map]) nD (by rw [List.length_map, rows_len]; omega) (fun H s => s.seq (SqL.of hL)) (fun j x Hj Hj' Kt d hj sj hDl y hd kt => ?_) (fun H9 ys s9 hD9 dys => ?_)
      · obtain ⟨rfl, hx⟩ := y
        obtain ⟨z, hz, rfl⟩ := rows_at hx
        rw [List.getElem?_map, hz] at hd
        cases hd
        simp only [List.map_cons, List.map_nil, L2.wipe, List.set_cons_succ, List.set_cons_zero]
        walk_at "my rn"
        refine ⟨rfl, ?_⟩
        walk_at "my rn"
        intro e1 J1 r1 x1 y1
        walk_at "my rn"
        intro tt J3 r3 x3 y3
        exact kt _ _ (x1.trans x3) (.tup (SqT.of (Cut.at (ofD hDl x1 r3) y3)) (.cons (.str _) (.cons (.str _) (.cons (.int _) (.cons (.int _) (.cons (.str _) (.cons (.str _) (.cons (.lst (SqL.of (Cut.at (ofD hDl (Same.refl _) r1) (x3 _ _ y1))) .nil) .nil))))))))
      have dys := dps_same Cut.sub dys
      walk_at "my rn"
      intro b0 H10 m10 z10 w10
      walk_at "my rn"
      intro b1 H11 m11 z11 w11
      walk_at "my rn"
      intro bp HP mP zP wP
      walk_at "my rn"
      intro to H12 m12 z12 w12
      walk_at "my rn"
      intro bo H13 m13 z13 w13
      walk_at "my rn"
      intro b2 H14 m14 z14 w14
      walk_at "my rn"
      have y1314 := z14
      have y1214 := z13.trans y1314
      have yP14 := z12.trans y1214
      have y1114 := zP.trans yP14
      have y1014 := z11.trans y1114
      have y914 := z10.trans y1014
      refine ⟨_, _, _, _, [], [⟨"o", [], [plO]⟩], [], (rowsS "i" n).map fun z => ⟨z, 9, 9, "o", "f", []⟩, rfl, dp_nil (y1014 _ _ w10), .lst (SqL.of (y1314 _ _ w13)) (.cons (.tup (SqT.of (y1214 _ _ w12)) (.cons (.str _) (.cons (.str _) (.cons (.lst (SqL.of (y1114 _ _ w11)) .nil) (.cons (.lst (SqL.of (yP14 _ _ wP)) (.cons (dp_same (z3.trans (s9.trans y914)) dpl) .nil)) .nil))))) .nil), dp_nil w14, .lst (SqL.of (y914 _ _ hD9)) (by rw [List.map_map]; exact dps_same y914 dys), fun v HZ sZ dv => ?_⟩
      exact q _ _ (S4.trans (z3.trans (s9.trans (y914.trans sZ)))) dv
    walk_at "my rn"
    refine Rd.ifD (fun e => ?_) fun e4 => ?_
    · obtain rfl : k = 4 := by have := V.int.inj e; omega
      walk_at "my rn"
      refine ⟨"p", n, rfl, by decide, by omega, fun L H3 z3 nL hL => ?_⟩
      walk_at "my rn"
      intro D nD
      refine lc_dp (K := K) (walk_list (xs := (rowsS "p" n).map V.str)) ((rowsS "p" n).map (fun z => portD ("in", z))) (by rw [List.length_map, List.length_map]) nD (by rw [List.length_map, rows_len]; omega) (fun H s => s.seq (SqL.of hL)) (fun j x Hj Hj' Kt d hj sj hDl y hd kt => ?_) (fun H9 ys s9 hD9 dys => ?_)
      · obtain ⟨rfl, hx⟩ := y
        obtain ⟨z, hz, rfl⟩ := rows_at hx
        rw [List.getElem?_map, hz] at hd
        cases hd
        simp only [List.map_cons, List.map_nil, L2.wipe, List.set_cons_succ, List.set_cons_zero]
        walk_at "my rn"
        refine ⟨rfl, ?_⟩
        walk_at "my rn"
        intro tt J3 r3 x3 y3
        exact kt _ _ x3 (.tup (SqT.of (Cut.at (ofD hDl (Same.refl _) r3) y3)) (.cons (.str _) (.cons (.str _) .nil)))
      have dys := dps_same Cut.sub dys
      walk_at "my rn"
      intro tq H7 m7 z7 w7
      walk_at "my rn"
      intro lq H8 m8 z8 w8
      have lys : ys.length = n := by rw [dps_len dys, List.length_map, rows_len]
      refine Rd.catQ (SqL.of ((z7.trans z8) _ _ hD9)) (SqL.of w8) (by simp; omega) fun PP H10 nPP z10 w10 => ?_
      have y810 := z8.trans z10
      have y910 := z7.trans y810
      walk_at "my rn"
      intro b1 H11 m11 z11 w11
      walk_at "my rn"
      intro b2 H12 m12 z12 w12
      walk_at "my rn"
      intro b3 H13 m13 z13 w13
      walk_at "my rn"
      have y1013 := z11.trans (z12.trans z13)
      have eq : (((rowsS "p" n).map (fun z => (("in" : Str), z)) ++ [(("out" : Str), ("q" : Str))]).map portD) = (rowsS "p" n).map (fun z => portD ("in", z)) ++ [portD ("out", "q")] := by rw [List.map_append, List.map_map]; rfl
      refine ⟨_, _, _, _, (rowsS "p" n).map (fun z => (("in" : Str), z)) ++ [(("out" : Str), ("q" : Str))], [], [], [], rfl, .lst (SqL.of (y1013 _ _ w10)) (by rw [eq]; exact dps_app (dps_same (y910.trans y1013) dys) (.cons (.tup (SqT.of ((y810.trans y1013) _ _ w7)) (.cons (.str _) (.cons (.str _) .nil))) .nil)), dp_nil ((z12.trans z13) _ _ w11), dp_nil (z13 _ _ w12), dp_nil w13, fun v HZ sZ dv => ?_⟩
      exact q _ _ (S4.trans (z3.trans (s9.trans (y910.trans (y1013.trans sZ))))) dv
    walk_at "my rn"
    refine Rd.ifD (fun e => ?_) fun e5 => ?_
    · obtain rfl : k = 5 := by have := V.int.inj e; omega
      walk_at "my rn"
      intro tq H7 m7 z7 w7
      walk_at "my rn"
      intro lq H8 m8 z8 w8
      walk_at "my rn"
      refine ⟨"q", n, rfl, by decide, by omega, fun L H3 z3 nL hL => ?_⟩
      walk_at "my rn"
      intro D nD
      refine lc_dp (K := K) (walk_list (xs := (rowsS "q" n).map V.str)) ((rowsS "q" n).map (fun z => portD ("out", z))) (by rw [List.length_map, List.length_map]) nD (by rw [List.length_map, rows_len]; omega) (fun H s => s.seq (SqL.of hL)) (fun j x Hj Hj' Kt d hj sj hDl y hd kt => ?_) (fun H9 ys s9 hD9 dys => ?_)
      · obtain ⟨rfl, hx⟩ := y
        obtain ⟨z, hz, rfl⟩ := rows_at hx
        rw [List.getElem?_map, hz] at hd
        cases hd
        simp only [List.map_cons, List.map_nil, L2.wipe, List.set_cons_succ, List.set_cons_zero]
        walk_at "my rn"
        refine ⟨rfl, ?_⟩
        walk_at "my rn"
        intro tt J3 r3 x3 y3
        exact kt _ _ x3 (.tup (SqT.of (Cut.at (ofD hDl (Same.refl _) r3) y3)) (.cons (.str _) (.cons (.str _) .nil)))
      have dys := dps_same Cut.sub dys
      walk_at "my rn"
      have lys : ys.length = n := by rw [dps_len dys, List.length_map, rows_len]
      refine Rd.catQ (SqL.of ((z3.trans s9) _ _ w8)) (SqL.of hD9) (by simp; omega) fun PP H10 nPP z10 w10 => ?_
      have y810 := z3.trans (s9.trans z10)
      walk_at "my rn"
      intro b1 H11 m11 z11 w11
      walk_at "my rn"
      intro b2 H12 m12 z12 w12
      walk_at "my rn"
      intro b3 H13 m13 z13 w13
      walk_at "my rn"
      have y1013 := z11.trans (z12.trans z13)
      have eq : (([(("in" : Str), ("p" : Str))] ++ (rowsS "q" n).map (fun z => (("out" : Str), z))).map portD) = [portD ("in", "p")] ++ (rowsS "q" n).map (fun z => portD ("out", z)) := by rw [List.map_append, List.map_map]; rfl
      refine ⟨_, _, _, _, [(("in" : Str), ("p" : Str))] ++ (rowsS "q" n).map (fun z => (("out" : Str), z)), [], [], [], rfl, .lst (SqL.of (y1013 _ _ w10)) (by rw [eq]; exact dps_app (.cons (.tup (SqT.of ((z8.trans (y810.trans y1013)) _ _ w7)) (.cons (.str _) (.cons (.str _) .nil))) .nil) (dps_same (z10.trans y1013) dys)), dp_nil ((z12.trans z13) _ _ w11), dp_nil (z13 _ _ w12), dp_nil w13, fun v HZ sZ dv => ?_⟩
      exact q _ _ (S4.trans (z7.trans (z8.trans (y810.trans (y1013.trans sZ))))) dv
    walk_at "my rn"
    refine Rd.ifD (fun e => ?_) fun e6 => ?_
    · obtain rfl : k = 6 := by have := V.int.inj e; omega
      walk_at "my rn"
      intro b0 H10 m10 z10 w10
      walk_at "my rn"
      refine ⟨"c", n, rfl, by decide, by omega, fun L H3 z3 nL hL => ?_⟩
      walk_at "my rn"
      intro D nD
      refine lc_dp (K := K) (walk_list (xs := (rowsS "c" n).map V.str)) ((rowsS "c" n).map (fun z => cellD (z, 0))) (by rw [List.length_map, List.length_map]) nD (by rw [List.length_map, rows_len]; omega) (fun H s => s.seq (SqL.of hL)) (fun j x Hj Hj' Kt d hj sj hDl y hd kt => ?_) (fun H9 ys s9 hD9 dys => ?_)
      · obtain ⟨rfl, hx⟩ := y
        obtain ⟨z, hz, rfl⟩ := rows_at hx
        rw [List.getElem?_map, hz] at hd
        cases hd
        simp only [List.map_cons, List.map_nil, L2.wipe, List.set_cons_succ, List.set_cons_zero]
        walk_at "my rn"
        refine ⟨rfl, ?_⟩
        walk_at "my rn"
        intro tt J3 r3 x3 y3
        exact kt _ _ x3 (.tup (SqT.of (Cut.at (ofD hDl (Same.refl _) r3) y3)) (.cons (.str _) (.cons (.int _) .nil)))
      have dys := dps_same Cut.sub dys
      walk_at "my rn"
      intro b1 H11 m11 z11 w11
      walk_at "my rn"
      intro to H12 m12 z12 w12
      walk_at "my rn"
      intro bo H13 m13 z13 w13
      walk_at "my rn"
      intro b2 H14 m14 z14 w14
      walk_at "my rn"
      intro b3 H15 m15 z15 w15
      walk_at "my rn"
      have y1415 := z14.trans z15
      have y1315 := z13.trans y1415
      have y1215 := z12.trans y1315
      have y915 := z11.trans y1215
      refine ⟨_, _, _, _, [], [⟨"o", (rowsS "c" n).map fun z => (z, 0), []⟩], [], [], rfl, dp_nil ((z3.trans (s9.trans y915)) _ _ w10), .lst (SqL.of (y1415 _ _ w13)) (.cons (.tup (SqT.of (y1315 _ _ w12)) (.cons (.str _) (.cons (.str _) (.cons (.lst (SqL.of (y915 _ _ hD9)) (by rw [List.map_map]; exact dps_same y915 dys)) (.cons (.lst (SqL.of (y1215 _ _ w11)) .nil) .nil))))) .nil), dp_nil (z15 _ _ w14), dp_nil w15, fun v HZ sZ dv => ?_⟩
      exact q _ _ (S4.trans (z10.trans (z3.trans (s9.trans (y915.trans sZ))))) dv
    walk_at "my rn"
    refine Rd.ifD (fun e => ?_) fun e7 => ?_
    · obtain rfl : k = 7 := by have := V.int.inj e; omega
      walk_at "my rn"
      intro b0 H10 m10 z10 w10
      walk_at "my rn"
      intro b1 H11 m11 z11 w11
      walk_at "my rn"
      intro b2 H12 m12 z12 w12
      walk_at "my rn"
      refine ⟨"c", n, rfl, by decide, by omega, fun L H3 z3 nL hL => ?_⟩
      walk_at "my rn"
      intro D nD
      refine lc_dp (K := K) (walk_list (xs := (rowsS "c" n).map V.str)) ((rowsS "c" n).map (fun z => cellD (z, 2))) (by rw [List.length_map, List.length_map]) nD (by rw [List.length_map, rows_len]; omega) (fun H s => s.seq (SqL.of hL)) (fun j x Hj Hj' Kt d hj sj hDl y hd kt => ?_) (fun H9 ys s9 hD9 dys => ?_)
      · obtain ⟨rfl, hx⟩ := y
        obtain ⟨z, hz, rfl⟩ := rows_at hx
        rw [List.getElem?_map, hz] at hd
        cases hd
        simp only [List.map_cons, List.map_nil, L2.wipe, List.set_cons_succ, List.set_cons_zero]
        walk_at "my rn"
        refine ⟨rfl, ?_⟩
        walk_at "my rn"
        intro tt J3 r3 x3 y3
        exact kt _ _ x3 (.tup (SqT.of (Cut.at (ofD hDl (Same.refl _) r3) y3)) (.cons (.str _) (.cons (.int _) .nil)))
      have dys := dps_same Cut.sub dys
      walk_at "my rn"
      have y129 := z3.trans s9
      refine ⟨_, _, [], (rowsS "c" n).map fun z => (z, 2), rfl, dp_nil (y129 _ _ w12), .lst (SqL.of hD9) (by rw [List.map_map]; exact dys), fun vt H13 z13 dvt => ?_⟩
      walk_at "my rn"
      intro b4 H14 m14 z14 w14
      walk_at "my rn"
      intro b3 H15 m15 z15 w15
      walk_at "my rn"
      have y915 := z13.trans (z14.trans z15)
      have y1215 := y129.trans y915
      refine ⟨_, _, _, _, [], [], [jobT [] ((rowsS "c" n).map fun z => (z, 2))], [], rfl, dp_nil ((z11.trans (z12.trans y1215)) _ _ w10), dp_nil ((z12.trans y1215) _ _ w11), .lst (SqL.of (z15 _ _ w14)) (.cons (dp_same (z14.trans z15) dvt) .nil), dp_nil w15, fun v HZ sZ dv => ?_⟩
      exact q _ _ (S4.trans (z10.trans (z11.trans (z12.trans (y1215.trans sZ))))) dv
    walk_at "my rn"
    refine Rd.ifD (fun e => ?_) fun e8 => ?_
    · obtain rfl : k = 8 := by have := V.int.inj e; omega
      walk_at "my rn"
      intro c0 HC mC zC wC
      walk_at "my rn"
      refine ⟨"c", n, rfl, by decide, by omega, fun L H3 z3 nL hL => ?_⟩
      walk_at "my rn"
      intro D nD
      refine lc_dp (K := K) (walk_list (xs := (rowsS "c" n).map V.str)) ((rowsS "c" n).map (fun z => cellD (z, 0))) (by rw [List.length_map, List.length_map]) nD (by rw [List.length_map, rows_len]; omega) (fun H s => s.seq (SqL.of hL)) (fun j x Hj Hj' Kt d hj sj hDl y hd kt => ?_) (fun H9 ys s9 hD9 dys => ?_)
      · obtain ⟨rfl, hx⟩ := y
        obtain ⟨z, hz, rfl⟩ := rows_at hx
        rw [List.getElem?_map, hz] at hd
        cases hd
        simp only [List.map_cons, List.map_nil, L2.wipe, List.set_cons_succ, List.set_cons_zero]
        walk_at "my rn"
        refine ⟨rfl, ?_⟩
        walk_at "my rn"
        intro tt J3 r3 x3 y3
        exact kt _ _ x3 (.tup (SqT.of (Cut.at (ofD hDl (Same.refl _) r3) y3)) (.cons (.str _) (.cons (.int _) .nil)))
      have dys := dps_same Cut.sub dys
      walk_at "my rn"
      intro c1 H6 m6 z6 w6
      walk_at "my rn"
      have dC := dp_nil (K := K) ((z3.trans (s9.trans z6)) _ _ wC)
      have dL : Dp K H6 (.ref D) (cellsD ((rowsS "c" n).map fun z => (z, 0))) := .lst (SqL.of (z6 _ _ hD9)) (by rw [List.map_map]; exact dps_same z6 dys)
      refine ⟨"f", _, _, _, [], (rowsS "c" n).map fun z => (z, 0), [], rfl, dC, dL, dp_nil w6, fun tf H7 z7 n7 w7 => ?_⟩
      have dop := opd (ps := []) (bs := []) z7 w7 dC dL (dp_nil w6)
      walk_at "my rn"
      intro lr H8 m8 z8 w8
      walk_at "my rn"
      intro b0 H10 m10 z10 w10
      walk_at "my rn"
      intro b1 H11 m11 z11 w11
      walk_at "my rn"
      intro to H12 m12 z12 w12
      walk_at "my rn"
      intro bo H13 m13 z13 w13
      walk_at "my rn"
      intro b2 H14 m14 z14 w14
      walk_at "my rn"
      intro b3 H15 m15 z15 w15
      walk_at "my rn"
      have y1415 := z14.trans z15
      have y1315 := z13.trans y1415
      have y1215 := z12.trans y1315
      have y1115 := z11.trans y1215
      have y1015 := z10.trans y1115
      refine ⟨_, _, _, _, [], [⟨"o", [], [⟨"f", [], (rowsS "c" n).map fun z => (z, 0), [], none⟩]⟩], [], [], rfl, dp_nil (y1115 _ _ w10), .lst (SqL.of (y1415 _ _ w13)) (.cons (.tup (SqT.of (y1315 _ _ w12)) (.cons (.str _) (.cons (.str _) (.cons (.lst (SqL.of (y1215 _ _ w11)) .nil) (.cons (.lst (SqL.of (y1015 _ _ w8)) (.cons (dp_same (z8.trans y1015) dop) .nil)) .nil))))) .nil), dp_nil (z15 _ _ w14), dp_nil w15, fun v HZ sZ dv => ?_⟩
      exact q _ _ (S4.trans (zC.trans (z3.trans (s9.trans (z6.trans (z7.trans (z8.trans (y1015.trans sZ)))))))) dv
    have hk9 : k = 9 := by
      have z : ∀ j : Nat, ¬ (V.int (k : Int) = V.int (j : Int)) → k ≠ j := fun j h e => h (by rw [e])
      have := z 0 e0
      have := z 1 e1
      have := z 2 e2
      have := z 3 e3
      have := z 4 e4
      have := z 5 e5
      have := z 6 e6
      have := z 7 e7
      have := z 8 e8
      omega
    subst hk9
    walk_at "my rn"
    refine ⟨"c", n, rfl, by decide, by omega, fun L H3 z3 nL hL => ?_⟩
    walk_at "my rn"
    intro c1 H5 m5 z5 w5
    walk_at "my rn"
    intro c2 H6 m6 z6 w6
    walk_at "my rn"
    have dC : Dp K H6 (.ref L) (.list ((rowsS "c" n).map PyData.str)) := .lst (SqL.of ((z5.trans z6) _ _ hL)) (dpA_str _)
    refine ⟨"f", _, _, _, rowsS "c" n, [], [], rfl, dC, dp_nil (z6 _ _ w5), dp_nil w6, fun tf H7 z7 n7 w7 => ?_⟩
    have dop := opd (cs := []) (bs := []) z7 w7 dC (dp_nil (z6 _ _ w5)) (dp_nil w6)
    walk_at "my rn"
    intro lr H8 m8 z8 w8
    walk_at "my rn"
    intro b0 H10 m10 z10 w10
    walk_at "my rn"
    intro b1 H11 m11 z11 w11
    walk_at "my rn"
    intro to H12 m12 z12 w12
    walk_at "my rn"
    intro bo H13 m13 z13 w13
    walk_at "my rn"
    intro b2 H14 m14 z14 w14
    walk_at "my rn"
    intro b3 H15 m15 z15 w15
    walk_at "my rn"
    have y1415 := z14.trans z15
    have y1315 := z13.trans y1415
    have y1215 := z12.trans y1315
    have y1115 := z11.trans y1215
    have y1015 := z10.trans y1115
    refine ⟨_, _, _, _, [], [⟨"o", [], [⟨"f", rowsS "c" n, [], [], none⟩]⟩], [], [], rfl, dp_nil (y1115 _ _ w10), .lst (SqL.of (y1415 _ _ w13)) (.cons (.tup (SqT.of (y1315 _ _ w12)) (.cons (.str _) (.cons (.str _) (.cons (.lst (SqL.of (y1215 _ _ w11)) .nil) (.cons (.lst (SqL.of (y1015 _ _ w8)) (.cons (dp_same (z8.trans y1015) dop) .nil)) .nil))))) .nil), dp_nil (z15 _ _ w14), dp_nil w15, fun v HZ sZ dv => ?_⟩
    exact q _ _ (S4.trans (z3.trans (z5.trans (z6.trans (z7.trans (z8.trans (y1015.trans sZ))))))) dv
end


set_option Elab.async false
set_option linter.all false
set_option maxRecDepth 100000
set_option maxHeartbeats 1000000
--@@rec _check_statements _check_statement

--@@guards



section
variable {P : Program} {w : World} {K : PySem.W.Frag} {mg : Str → Option Value} {base : Heap}
def sp__law_deep (K : PySem.W.Frag) : Sp := fun vs H Q _ => ∃ (n : Nat) (a : V), vs = [.int n, a] ∧ 1 ≤ n ∧ n ≤ 100 ∧ Dp K H a (.list []) ∧ ∀ v H', Same H H' → Dp K H' v (.list (stmsD (deepS (n - 1)))) → Q v H'
theorem ok__law_deep (T : Top P K mg) : FnOk P w K mg base CX0 1 T.a__law_deep T.d__law_deep ["n", "inner"]  (sp__law_deep K) := by
  refine T.F__law_deep.ok sc__law_deep (fun vs H Q E h => ?_) (fun cdv A outer s H vs Q E hr h => ?_)
  · obtain ⟨_, _, rfl, _⟩ := h
    rfl
  · obtain ⟨n, a, rfl, n1, n2, da, q⟩ := h
    refine ⟨_, (pss_cons (ps_set (i := 2) sc__law_deep.nd rfl (by first | exact Or.inl rfl | exact Or.inr rfl) (pv 1))
  (pss_cons (ps_for PassesOwn.never rfl (pi_range1 (by rfl) T.m_range (pa_cons (pe_op op_sub (pv 0) pe_int) pa_nil)) (pg_name (i := 3) sc__law_deep.nd rfl (by first | exact Or.inl rfl | exact Or.inr rfl))
  (pss_one (ps_set (i := 2) sc__law_deep.nd rfl (by first | exact Or.inl rfl | exact Or.inr rfl) (pe_lst (pa_cons (pe_tup (pa_cons pe_str (pa_cons (pe_tup (pa_cons pe_str (pa_cons pe_int pa_nil))) (pa_cons (pe_lst pa_nil) (pa_cons (pv 2) pa_nil))))) pa_nil)))))
  (pss_one (ps_ret (pv 2))))), ?_⟩
    rw [show ∀ a0 a1 : V, L2.start ["n", "inner", "body", "k"] [a0, a1] = [some a0, some a1, none, none] from fun _ _ => rfl]
    walk_at "my rn"
    refine ⟨by omega, by omega, ?_⟩
    rw [show ((n : Int) - 1).toNat = n - 1 by omega]
    refine for_it walk_range (fun k σ H' => ∃ (v : V) (y3 : Option V), σ = [some (.int (n : Int)), some a, some v, y3] ∧ Same H H' ∧ Dp K H' v (.list (stmsD (deepS k)))) ⟨a, _, rfl, Same.refl _, da⟩ (fun _ _ _ _ _ => trivial) ?_ ?_
    · rintro k x σ Ho H1 hk ⟨v, y3, rfl, s1, dv⟩ y
      obtain ⟨rfl, rfl⟩ := Rd.zr y
      walk_at "my rn"
      intro t1 J1 r1 x1 y1
      walk_at "my rn"
      intro t2 J2 r2 x2 y2
      walk_at "my rn"
      intro t3 J3 r3 x3 y3'
      walk_at "my rn"
      intro t4 J4 r4 x4 y4
      exact ⟨_, _, rfl, s1.trans (x1.trans (x2.trans (x3.trans x4))), .lst (SqL.of y4) (.cons (.tup (SqT.of (x4 _ _ y3')) (.cons (.str _) (.cons (.tup (SqT.of ((x2.trans (x3.trans x4)) _ _ y1)) (.cons (.str _) (.cons (.int _) .nil))) (.cons (.lst (SqL.of ((x3.trans x4) _ _ y2)) .nil) (.cons (dp_same (x1.trans (x2.trans (x3.trans x4))) dv) .nil))))) .nil)⟩
    · rintro σ H1 ⟨v, y3, rfl, s1, dv⟩
      walk_at "my rn"
      exact q _ _ s1 dv
def sp__law_loops (K : PySem.W.Frag) : Sp := fun vs H Q _ => ∃ (n : Nat), vs = [.int n] ∧ n ≤ 100 ∧ ∀ v H', Same H H' → Dp K H' v (.list (stmsD (loopsS n))) → Q v H'
theorem ok__law_loops (T : Top P K mg) : FnOk P w K mg base CX0 1 T.a__law_loops T.d__law_loops ["n"]  (sp__law_loops K) := by
  refine T.F__law_loops.ok sc__law_loops (fun vs H Q E h => ?_) (fun cdv A outer s H vs Q E hr h => ?_)
  · obtain ⟨_, rfl, _⟩ := h
    rfl
  · obtain ⟨n, rfl, n2, q⟩ := h
    refine ⟨_, (pss_cons (ps_set (i := 1) sc__law_loops.nd rfl (by first | exact Or.inl rfl | exact Or.inr rfl) (pe_lst pa_nil))
  (pss_cons (ps_for PassesOwn.never rfl (pi_range1 (by rfl) T.m_range (pa_cons (pv 0) pa_nil)) (pg_name (i := 2) sc__law_loops.nd rfl (by first | exact Or.inl rfl | exact Or.inr rfl))
  (pss_cons (ps_set (i := 1) sc__law_loops.nd rfl (by first | exact Or.inl rfl | exact Or.inr rfl) (pe_lst (pa_cons (pe_tup (pa_cons pe_str (pa_cons (pe_op op_add_str pe_str (pe_callTy call_str_int (by rfl) T.m_str (by decide +kernel) (pa_cons (pv 2) pa_nil))) (pa_cons pe_int (pa_cons pe_non (pa_cons (pv 1) pa_nil)))))) pa_nil)))
  (pss_one (ps_if (pt_cmpR op_eq (pv 2) pe_int (nomark _))
  (pss_one (ps_set (i := 1) sc__law_loops.nd rfl (by first | exact Or.inl rfl | exact Or.inr rfl) (pe_lst (pa_cons (pe_tup (pa_cons pe_str (pa_cons (pe_tup (pa_cons pe_str (pa_cons (pv 2) pa_nil))) (pa_cons (pv 1) (pa_cons (pe_lst pa_nil) pa_nil))))) pa_nil))))
  pss_nil))))
  (pss_one (ps_ret (pv 1))))), ?_⟩
    rw [show ∀ a0 : V, L2.start ["n", "body", "k"] [a0] = [some a0, none, none] from fun _ => rfl]
    walk_at "my rn"
    intro b0 H0 m0 z0 w0
    walk_at "my rn"
    refine ⟨by omega, by omega, ?_⟩
    rw [Int.toNat_natCast]
    refine for_it walk_range (fun k σ H' => ∃ (v : V) (y3 : Option V), σ = [some (.int (n : Int)), some v, y3] ∧ Same H H' ∧ Dp K H' v (.list (stmsD (loopsS k)))) ⟨_, _, rfl, z0, dp_nil w0⟩ (fun _ _ _ _ _ => trivial) ?_ ?_
    · rintro k x σ Ho H1 hk ⟨v, y3, rfl, s1, dv⟩ y
      obtain ⟨rfl, rfl⟩ := Rd.zr y
      have lj : (Str.ofString (toString ((k : Nat) : Int))).length ≤ 18 := dec_str k (by omega)
      have li : ("i" : Str).length = 1 := rfl
      walk_at "my rn"
      refine ⟨dec_log k (by omega), _, _, rfl, rfl, Rd.sz (by omega), ?_⟩
      walk_at "my rn"
      intro t1 J1 r1 x1 y1
      walk_at "my rn"
      intro t2 J2 r2 x2 y2
      have dl : Dp K J2 (.ref t2) (.list [(Stm.loop (nmS "i" k) 2 none (loopsS k)).d]) := .lst (SqL.of y2) (.cons (.tup (SqT.of (x2 _ _ y1)) (.cons (.str _) (.cons (.str _) (.cons (.int _) (.cons .non (.cons (dp_same (x1.trans x2) dv) .nil)))))) .nil)
      walk_at "my rn"
      refine Rd.ifD (fun e => ?_) fun e => ?_
      · obtain rfl : k = 1 := by have := V.int.inj e; omega
        walk_at "my rn"
        intro t3 J3 r3 x3 y3'
        walk_at "my rn"
        intro t4 J4 r4 x4 y4
        walk_at "my rn"
        intro t5 J5 r5 x5 y5
        walk_at "my rn"
        intro t6 J6 r6 x6 y6
        exact ⟨_, _, rfl, s1.trans (x1.trans (x2.trans (x3.trans (x4.trans (x5.trans x6))))), .lst (SqL.of y6) (.cons (.tup (SqT.of (x6 _ _ y5)) (.cons (.str _) (.cons (.tup (SqT.of ((x4.trans (x5.trans x6)) _ _ y3')) (.cons (.str _) (.cons (.int _) .nil))) (.cons (dp_same (x3.trans (x4.trans (x5.trans x6))) dl) (.cons (.lst (SqL.of ((x5.trans x6) _ _ y4)) .nil) .nil))))) .nil)⟩
      · have hk1 : k ≠ 1 := fun h => e (by rw [h]; rfl)
        refine ⟨_, _, rfl, s1.trans (x1.trans x2), ?_⟩
        have e2 : loopsS (k + 1) = [.loop (nmS "i" k) 2 none (loopsS k)] := if_neg hk1
        rw [e2]
        exact dl
    · rintro σ H1 ⟨v, y3, rfl, s1, dv⟩
      walk_at "my rn"
      exact q _ _ s1 dv
def sp__law_unary (K : PySem.W.Frag) : Sp := fun vs H Q _ => ∃ (n : Nat), vs = [.int n] ∧ 1 ≤ n ∧ n ≤ 100 ∧ ∀ v H', Same H H' → Dp K H' v (unE (n - 1)).d → Q v H'
theorem ok__law_unary (T : Top P K mg) : FnOk P w K mg base CX0 1 T.a__law_unary T.d__law_unary ["n"]  (sp__law_unary K) := by
  refine T.F__law_unary.ok sc__law_unary (fun vs H Q E h => ?_) (fun cdv A outer s H vs Q E hr h => ?_)
  · obtain ⟨_, rfl, _⟩ := h
    rfl
  · obtain ⟨n, rfl, n1, n2, q⟩ := h
    refine ⟨_, (pss_cons (ps_set (i := 1) sc__law_unary.nd rfl (by first | exact Or.inl rfl | exact Or.inr rfl) (pe_tup (pa_cons pe_str (pa_cons pe_str pa_nil))))
  (pss_cons (ps_for PassesOwn.never rfl (pi_range1 (by rfl) T.m_range (pa_cons (pe_op op_sub (pv 0) pe_int) pa_nil)) (pg_name (i := 2) sc__law_unary.nd rfl (by first | exact Or.inl rfl | exact Or.inr rfl))
  (pss_one (ps_set (i := 1) sc__law_unary.nd rfl (by first | exact Or.inl rfl | exact Or.inr rfl) (pe_tup (pa_cons pe_str (pa_cons (pv 1) pa_nil))))))
  (pss_one (ps_ret (pv 1))))), ?_⟩
    rw [show ∀ a0 : V, L2.start ["n", "e", "k"] [a0] = [some a0, none, none] from fun _ => rfl]
    walk_at "my rn"
    intro b0 H0 m0 z0 w0
    walk_at "my rn"
    refine ⟨by omega, by omega, ?_⟩
    rw [show ((n : Int) - 1).toNat = n - 1 by omega]
    refine for_it walk_range (fun k σ H' => ∃ (v : V) (y3 : Option V), σ = [some (.int (n : Int)), some v, y3] ∧ Same H H' ∧ Dp K H' v (unE k).d) ⟨_, _, rfl, z0, .tup (SqT.of w0) (.cons (.str _) (.cons (.str _) .nil))⟩ (fun _ _ _ _ _ => trivial) ?_ ?_
    · rintro k x σ Ho H1 hk ⟨v, y3, rfl, s1, dv⟩ y
      obtain ⟨rfl, rfl⟩ := Rd.zr y
      walk_at "my rn"
      intro t1 J1 r1 x1 y1
      exact ⟨_, _, rfl, s1.trans x1, .tup (SqT.of y1) (.cons (.str _) (.cons (dp_same x1 dv) .nil))⟩
    · rintro σ H1 ⟨v, y3, rfl, s1, dv⟩
      walk_at "my rn"
      exact q _ _ s1 dv
def sp__law_wide (K : PySem.W.Frag) : Sp := fun vs H Q _ => ∃ (n : Nat), vs = [.int n] ∧ n ≤ 100 ∧ ∀ v H', Same H H' → Dp K H' v (wideE n).d → Q v H'
theorem ok__law_wide (T : Top P K mg) : FnOk P w K mg base CX0 1 T.a__law_wide T.d__law_wide ["n"]  (sp__law_wide K) := by
  refine T.F__law_wide.ok sc__law_wide (fun vs H Q E h => ?_) (fun cdv A outer s H vs Q E hr h => ?_)
  · obtain ⟨_, rfl, _⟩ := h
    rfl
  · obtain ⟨n, rfl, n2, q⟩ := h
    refine ⟨_, (pss_cons (ps_setLc (i := 1) (own := [("k", 2)]) (g := gName 2) (tt := tYes) rfl sc__law_wide.nd rfl rfl (sw_true rfl rfl rfl (by decide +kernel)) (pi_range1 (by rfl) T.m_range (pa_cons pe_int pa_nil)) (blkOk_by (N := ["n", "rows", "k", "first", "left", "right", "more"]) (sc := defScope s__law_wide) (by decide +kernel)) (fun _ _ _ _ _ => pg_name (i := 2) sc__law_wide.nd rfl (Or.inl rfl)) (fun _ _ _ _ _ => pts_nil) (fun _ _ _ _ _ => (pe_tup (pa_cons pe_str (pa_cons (pv 2) pa_nil)))))
  (pss_cons (ps_set (i := 3) sc__law_wide.nd rfl (by first | exact Or.inl rfl | exact Or.inr rfl) (pe_ix ix_list (pv 1) pe_int (fun _ _ => rfl)))
  (pss_cons (ps_set (i := 4) sc__law_wide.nd rfl (by first | exact Or.inl rfl | exact Or.inr rfl) (pe_tup (pa_cons pe_str (pa_cons (pe_tup (pa_cons pe_str (pa_cons (pe_tup (pa_cons pe_str (pa_cons (pe_ix ix_list (pv 1) pe_int (fun _ _ => rfl)) (pa_cons (pe_ix ix_list (pv 1) pe_int (fun _ _ => rfl)) pa_nil)))) (pa_cons (pe_tup (pa_cons pe_str (pa_cons (pe_ix ix_list (pv 1) pe_int (fun _ _ => rfl)) (pa_cons (pe_ix ix_list (pv 1) pe_int (fun _ _ => rfl)) pa_nil)))) pa_nil)))) (pa_cons (pe_tup (pa_cons pe_str (pa_cons (pe_tup (pa_cons pe_str (pa_cons (pe_ix ix_list (pv 1) pe_int (fun _ _ => rfl)) (pa_cons (pe_ix ix_list (pv 1) pe_int (fun _ _ => rfl)) pa_nil)))) (pa_cons (pe_ix ix_list (pv 1) pe_int (fun _ _ => rfl)) pa_nil)))) pa_nil)))))
  (pss_cons (ps_set (i := 5) sc__law_wide.nd rfl (by first | exact Or.inl rfl | exact Or.inr rfl) (pe_tup (pa_cons pe_str (pa_cons (pv 4) (pa_cons (pv 4) pa_nil)))))
  (pss_cons (ps_set (i := 6) sc__law_wide.nd rfl (by first | exact Or.inl rfl | exact Or.inr rfl) (pe_tup (pa_cons pe_str (pa_cons (pe_tup (pa_cons pe_str (pa_cons (pv 3) (pa_cons (pv 3) pa_nil)))) (pa_cons (pe_tup (pa_cons pe_str (pa_cons (pe_tup (pa_cons pe_str (pa_cons (pv 3) (pa_cons (pv 3) pa_nil)))) (pa_cons (pe_tup (pa_cons pe_str (pa_cons (pv 3) (pa_cons (pv 3) pa_nil)))) pa_nil)))) pa_nil)))))
  (pss_cons (ps_if (pt_cmpR op_gt (pv 0) pe_int (nomark _))
  (pss_one (ps_set (i := 6) sc__law_wide.nd rfl (by first | exact Or.inl rfl | exact Or.inr rfl) (pe_tup (pa_cons pe_str (pa_cons (pe_tup (pa_cons pe_str (pa_cons (pe_tup (pa_cons pe_str (pa_cons (pv 3) pa_nil))) (pa_cons (pv 3) pa_nil)))) (pa_cons (pe_tup (pa_cons pe_str (pa_cons (pe_tup (pa_cons pe_str (pa_cons (pv 3) (pa_cons (pv 3) pa_nil)))) (pa_cons (pe_tup (pa_cons pe_str (pa_cons (pv 3) (pa_cons (pv 3) pa_nil)))) pa_nil)))) pa_nil))))))
  pss_nil)
  (pss_one (ps_ret (pe_tup (pa_cons pe_str (pa_cons (pv 5) (pa_cons (pe_tup (pa_cons pe_str (pa_cons (pv 6) pa_nil))) pa_nil)))))))))))), ?_⟩
    have P2 : ∀ {H1 H2 : Hp} {t : Addr} {a b : V} {x y : Ex}, Same H1 H2 → H2 t = some (.tup [.str "+", a, b]) → Dp K H1 a x.d → Dp K H1 b y.d → Dp K H2 (.ref t) (pl2 x y).d := fun s h d1 d2 => .tup (SqT.of h) (.cons (.str _) (.cons (dp_same s d1) (.cons (dp_same s d2) .nil)))
    rw [show ∀ a0 : V, L2.start ["n", "rows", "k", "first", "left", "right", "more"] [a0] = [some a0, none, none, none, none, none, none] from fun _ => rfl]
    walk_at "my rn"
    refine ⟨by decide, by decide, fun D nD => ?_⟩
    refine lc_dp (K := K) walk_range ((List.range 8).map fun (k : Nat) => (Ex.num k).d) rfl nD (by decide) (fun _ _ => trivial) (fun j x Hj Hj' Kt d hj sj hDl y hd kt => ?_) (fun H9 ys s9 hD9 dys => ?_)
    · obtain ⟨rfl, rfl⟩ := Rd.zr y
      rw [List.getElem?_map, List.getElem?_range (show j < 8 from hj)] at hd
      cases hd
      simp only [List.map_cons, List.map_nil, L2.wipe, List.set_cons_succ, List.set_cons_zero]
      walk_at "my rn"
      refine ⟨rfl, ?_⟩
      walk_at "my rn"
      intro tt J3 r3 x3 y3
      exact kt _ _ x3 (.tup (SqT.of (Cut.at (ofD hDl (Same.refl _) r3) y3)) (.cons (.str _) (.cons (.int _) .nil)))
    · have dys := dps_same Cut.sub dys
      have at_ : ∀ j : Nat, j < 8 → ∃ v, ys[j]? = some v ∧ Dp K H9 v (Ex.num j).d := fun j hj => dp_at dys (by rw [List.getElem?_map, List.getElem?_range hj]; rfl)
      obtain ⟨v0, e0, d0⟩ := at_ 0 (by decide)
      obtain ⟨v1, e1, d1⟩ := at_ 1 (by decide)
      obtain ⟨v2, e2, d2⟩ := at_ 2 (by decide)
      obtain ⟨v3, e3, d3⟩ := at_ 3 (by decide)
      obtain ⟨v4, e4, d4⟩ := at_ 4 (by decide)
      obtain ⟨v5, e5, d5⟩ := at_ 5 (by decide)
      obtain ⟨v6, e6, d6⟩ := at_ 6 (by decide)
      have hD9 := SqL.of (K := K) hD9
      walk_at "my rn"
      refine Rd.ixLq hD9 (Rd.at_val (j := 0) rfl e0) ?_
      walk_at "my rn"
      refine Rd.ixLq hD9 (Rd.at_val (j := 0) rfl e0) ?_
      walk_at "my rn"
      refine Rd.ixLq hD9 (Rd.at_val (j := 1) rfl e1) ?_
      walk_at "my rn"
      intro t1 J1 r1 x1 y1
      have p1 := P2 x1 y1 d0 d1
      walk_at "my rn"
      refine Rd.ixLq (x1.seq hD9) (Rd.at_val (j := 2) rfl e2) ?_
      walk_at "my rn"
      refine Rd.ixLq (x1.seq hD9) (Rd.at_val (j := 3) rfl e3) ?_
      walk_at "my rn"
      intro t2 J2 r2 x2 y2
      have p2 := P2 x2 y2 (dp_same x1 d2) (dp_same x1 d3)
      walk_at "my rn"
      intro t3 J3 r3 x3 y3
      have p3 := P2 x3 y3 (dp_same x2 p1) p2
      have X3 := x1.trans (x2.trans x3)
      walk_at "my rn"
      refine Rd.ixLq (X3.seq hD9) (Rd.at_val (j := 4) rfl e4) ?_
      walk_at "my rn"
      refine Rd.ixLq (X3.seq hD9) (Rd.at_val (j := 5) rfl e5) ?_
      walk_at "my rn"
      intro t4 J4 r4 x4 y4
      have p4 := P2 x4 y4 (dp_same X3 d4) (dp_same X3 d5)
      walk_at "my rn"
      refine Rd.ixLq ((X3.trans x4).seq hD9) (Rd.at_val (j := 6) rfl e6) ?_
      walk_at "my rn"
      intro t5 J5 r5 x5 y5
      have p5 := P2 x5 y5 p4 (dp_same (X3.trans x4) d6)
      walk_at "my rn"
      intro t6 J6 r6 x6 y6
      have p6 := P2 x6 y6 (dp_same (x4.trans x5) p3) p5
      walk_at "my rn"
      intro t7 J7 r7 x7 y7
      have p7 := P2 x7 y7 p6 p6
      have X7 := X3.trans (x4.trans (x5.trans (x6.trans x7)))
      have f7 := dp_same X7 d0
      walk_at "my rn"
      intro t8 J8 r8 x8 y8
      have p8 := P2 x8 y8 f7 f7
      walk_at "my rn"
      intro t9 J9 r9 x9 y9
      have p9 := P2 x9 y9 (dp_same x8 f7) (dp_same x8 f7)
      walk_at "my rn"
      intro t10 J10 r10 x10 y10
      have p10 := P2 x10 y10 (dp_same (x8.trans x9) f7) (dp_same (x8.trans x9) f7)
      walk_at "my rn"
      intro t11 J11 r11 x11 y11
      have p11 := P2 x11 y11 (dp_same x10 p9) p10
      walk_at "my rn"
      intro t12 J12 r12 x12 y12
      have p12 := P2 x12 y12 (dp_same (x9.trans (x10.trans x11)) p8) p11
      have X12 := x8.trans (x9.trans (x10.trans (x11.trans x12)))
      walk_at "my rn"
      by_cases h40 : 40 < n
      · rw [decide_eq_true (show (40 : Int) < (n : Int) by omega)]
        refine Rd.ifT ?_
        have g7 := dp_same X12 f7
        walk_at "my rn"
        intro q1 K1 a1 b1 c1
        have pn : Dp K K1 (.ref q1) (Ex.un "neg" (.num 0)).d := .tup (SqT.of c1) (.cons (.str _) (.cons (dp_same b1 g7) .nil))
        walk_at "my rn"
        intro q8 K8 a8 b8 c8
        have p8 := P2 b8 c8 pn (dp_same b1 g7)
        have g8 := dp_same (b1.trans b8) g7
        walk_at "my rn"
        intro q9 K9 a9 b9 c9
        have p9 := P2 b9 c9 g8 g8
        walk_at "my rn"
        intro q10 K10 a10 b10 c10
        have p10 := P2 b10 c10 (dp_same b9 g8) (dp_same b9 g8)
        walk_at "my rn"
        intro q11 K11 a11 b11 c11
        have p11 := P2 b11 c11 (dp_same b10 p9) p10
        walk_at "my rn"
        intro q12 K12 a12 b12 c12
        have p12 := P2 b12 c12 (dp_same (b9.trans (b10.trans b11)) p8) p11
        have Y12 := b1.trans (b8.trans (b9.trans (b10.trans (b11.trans b12))))
        walk_at "my rn"
        intro u1 L1 a13 b13 c13
        have pm : Dp K L1 (.ref u1) (Ex.un "neg" (moreE (.un "neg" (.num 0)))).d := .tup (SqT.of c13) (.cons (.str _) (.cons (dp_same b13 p12) .nil))
        walk_at "my rn"
        intro u2 L2_ a14 b14 c14
        have pf := P2 b14 c14 (dp_same (X12.trans (Y12.trans b13)) p7) pm
        refine q _ _ (s9.trans (X7.trans (X12.trans (Y12.trans (b13.trans b14))))) ?_
        unfold wideE
        rw [if_pos h40]
        exact pf
      · rw [decide_eq_false (show ¬ (40 : Int) < (n : Int) by omega)]
        refine Rd.ifF ?_
        walk_at "my rn"
        intro u1 L1 a13 b13 c13
        have pm : Dp K L1 (.ref u1) (Ex.un "neg" (moreE (.num 0))).d := .tup (SqT.of c13) (.cons (.str _) (.cons (dp_same b13 p12) .nil))
        walk_at "my rn"
        intro u2 L2_ a14 b14 c14
        have pf := P2 b14 c14 (dp_same (X12.trans b13) p7) pm
        refine q _ _ (s9.trans (X7.trans (X12.trans (b13.trans b14)))) ?_
        unfold wideE
        rw [if_neg h40]
        exact pf
end


set_option Elab.async false
set_option linter.all false
set_option maxRecDepth 100000
set_option maxHeartbeats 1000000
--@@rec _check_statements _check_statement

--@@guards



theorem dps_take {K : PySem.W.Frag} {H : Hp} : ∀ {vs : List V} {ds : List PyData} (n : Nat), DpAll K H vs ds → DpAll K H (vs.take n) (ds.take n)
  | _, _, 0, _ => .nil
  | _, _, _ + 1, .nil => .nil
  | _, _, n + 1, .cons a b => .cons a (dps_take n b)
theorem dps_drop {K : PySem.W.Frag} {H : Hp} : ∀ {vs : List V} {ds : List PyData} (n : Nat), DpAll K H vs ds → DpAll K H (vs.drop n) (ds.drop n)
  | _, _, 0, h => h
  | _, _, _ + 1, .nil => .nil
  | _, _, n + 1, .cons _ b => dps_drop n b
theorem dps_cut {K : PySem.W.Frag} {H : Hp} {ys : List V} {ds : List PyData} (h : DpAll K H ys ds) (l90 : 90 ≤ ys.length) : DpAll K H (cutV ys none (some 60)) (ds.take 60) ∧ DpAll K H (cutV ys (some 60) (some 90)) ((ds.drop 60).take 30) ∧ DpAll K H (cutV ys (some 90) none) (ds.drop 90) := by
  have e6 : ∀ d, HT.sIx ys.length d (some 60) = 60 := fun d => (HT.sIx_nat ys.length d 60).trans (by omega)
  have e9 : ∀ d, HT.sIx ys.length d (some 90) = 90 := fun d => (HT.sIx_nat ys.length d 90).trans (by omega)
  refine ⟨?_, ?_, ?_⟩
  · unfold cutV
    rw [e6, HT.sIx_none]
    exact dps_take 60 h
  · unfold cutV
    rw [e6, e9]
    exact dps_take 30 (dps_drop 60 h)
  · unfold cutV
    rw [e9, HT.sIx_none, List.take_of_length_le (by rw [List.length_drop]; omega)]
    exact dps_drop 90 h
section
variable {P : Program} {w : World} {K : PySem.W.Frag} {mg : Str → Option Value} {base : Heap}
def sp__law_bodies (K : PySem.W.Frag) : Sp := fun vs H Q _ => ∃ (k n : Nat), vs = [.int k, .int n] ∧ k < 11 ∧ 3 ≤ n ∧ (k = 0 → 150 ≤ n) ∧ (n ≤ 300 ∨ k = 7) ∧ (k = 1 ∨ k = 3 ∨ k = 4 ∨ k = 9 ∨ k = 2 ∨ k = 10 → n ≤ 100) ∧ ∀ v H', Same H H' → Dp K H' v (pgB k n).d → Q v H'
theorem ok__law_bodies (T : Top P K mg) : FnOk P w K mg base CX0 2 T.a__law_bodies T.d__law_bodies ["kind", "n"]  (sp__law_bodies K) := by
  refine T.F__law_bodies.ok sc__law_bodies (fun vs H Q E h => ?_) (fun cdv A outer s H vs Q E hr h => ?_)
  · obtain ⟨_, _, rfl, _⟩ := h
    rfl
  · obtain ⟨k, n, rfl, hk, hn, h0k, hb, hs, q⟩ := h
    refine ⟨_, (pss_cons (ps_set (i := 2) sc__law_bodies.nd rfl (by first | exact Or.inl rfl | exact Or.inr rfl) (pe_lst (pa_cons (pe_tup (pa_cons pe_str (pa_cons pe_int pa_nil))) (pa_cons (pe_tup (pa_cons pe_str (pa_cons pe_int pa_nil))) pa_nil))))
  (pss_cons (ps_if (pt_cmpR op_eq (pv 0) pe_int (nomark _))
  (pss_cons (ps_setLc (i := 3) (own := [("k", 4)]) (g := gName 4) (tt := tYes) rfl sc__law_bodies.nd rfl rfl (sw_true rfl rfl rfl (by decide +kernel)) (pi_range1 (by rfl) T.m_range (pa_cons (pe_op op_sub (pv 1) pe_int) pa_nil)) (blkOk_by (N := ["kind", "n", "cells", "rest", "k", "body", "rows"]) (sc := defScope s__law_bodies) (by decide +kernel)) (fun _ _ _ _ _ => pg_name (i := 4) sc__law_bodies.nd rfl (Or.inl rfl)) (fun _ _ _ _ _ => pts_nil) (fun _ _ _ _ _ => (pe_tup (pa_cons pe_str (pa_cons (pe_tup (pa_cons pe_str (pa_cons pe_str pa_nil))) (pa_cons (pe_tup (pa_cons pe_str (pa_cons pe_int pa_nil))) pa_nil))))))
  (pss_cons (ps_set (i := 5) sc__law_bodies.nd rfl (by first | exact Or.inl rfl | exact Or.inr rfl) (pe_lst (pa_cons (pe_tup (pa_cons pe_str (pa_cons (pe_tup (pa_cons pe_str (pa_cons pe_int pa_nil))) (pa_cons (pe_slice sl_list (pv 3) po_none (po_some pe_int)) (pa_cons (pe_lst pa_nil) pa_nil))))) (pa_cons (pe_tup (pa_cons pe_str (pa_cons pe_str (pa_cons pe_int (pa_cons pe_non (pa_cons (pe_slice sl_list (pv 3) (po_some pe_int) (po_some pe_int)) pa_nil)))))) (pa_cons (pe_tup (pa_cons pe_str (pa_cons pe_str (pa_cons (pe_tup (pa_cons pe_str (pa_cons pe_int pa_nil))) pa_nil)))) pa_nil)))))
  (pss_one (ps_ret (pe_call (ok__law_whole T) (hr.mono (by decide)) (by rfl) T.g__law_whole T.F__law_whole.kp T.b__law_whole .nil pass0 (pa_cons (pe_lst (pa_cons (pe_tup (pa_cons pe_str (pa_cons pe_str pa_nil))) pa_nil)) (pa_cons (pe_lst pa_nil) (pa_cons (pe_lst (pa_cons (pe_call (ok__law_task T) (hr.mono (by decide)) (by rfl) T.g__law_task T.F__law_task.kp T.b__law_task .nil pass0 (pa_cons (pe_op op_catQ (pv 5) (pe_slice sl_list (pv 3) (po_some pe_int) po_none)) (pa_cons (pv 2) pa_nil))) pa_nil)) (pa_cons (pe_lst pa_nil) pa_nil)))))))))
  pss_nil)
  (pss_cons (ps_if (pt_cmpR op_eq (pv 0) pe_int (nomark _))
  (pss_one (ps_ret (pe_call (ok__law_whole T) (hr.mono (by decide)) (by rfl) T.g__law_whole T.F__law_whole.kp T.b__law_whole .nil pass0 (pa_cons (pe_lst pa_nil) (pa_cons (pe_lst pa_nil) (pa_cons (pe_lst (pa_cons (pe_call (ok__law_task T) (hr.mono (by decide)) (by rfl) T.g__law_task T.F__law_task.kp T.b__law_task .nil pass0 (pa_cons (pe_call (ok__law_deep T) (hr.mono (by decide)) (by rfl) T.g__law_deep T.F__law_deep.kp T.b__law_deep .nil pass0 (pa_cons (pv 1) (pa_cons (pe_lst pa_nil) pa_nil))) (pa_cons (pv 2) pa_nil))) pa_nil)) (pa_cons (pe_lst pa_nil) pa_nil)))))))
  pss_nil)
  (pss_cons (ps_if (pt_cmpR op_eq (pv 0) pe_int (nomark _))
  (pss_one (ps_ret (pe_call (ok__law_whole T) (hr.mono (by decide)) (by rfl) T.g__law_whole T.F__law_whole.kp T.b__law_whole .nil pass0 (pa_cons (pe_lst pa_nil) (pa_cons (pe_lst pa_nil) (pa_cons (pe_lst (pa_cons (pe_call (ok__law_task T) (hr.mono (by decide)) (by rfl) T.g__law_task T.F__law_task.kp T.b__law_task .nil pass0 (pa_cons (pe_call (ok__law_loops T) (hr.mono (by decide)) (by rfl) T.g__law_loops T.F__law_loops.kp T.b__law_loops .nil pass0 (pa_cons (pv 1) pa_nil)) (pa_cons (pv 2) pa_nil))) pa_nil)) (pa_cons (pe_lst pa_nil) pa_nil)))))))
  pss_nil)
  (pss_cons (ps_if (pt_cmpR op_eq (pv 0) pe_int (nomark _))
  (pss_one (ps_ret (pe_call (ok__law_whole T) (hr.mono (by decide)) (by rfl) T.g__law_whole T.F__law_whole.kp T.b__law_whole .nil pass0 (pa_cons (pe_lst pa_nil) (pa_cons (pe_lst pa_nil) (pa_cons (pe_lst (pa_cons (pe_call (ok__law_task T) (hr.mono (by decide)) (by rfl) T.g__law_task T.F__law_task.kp T.b__law_task .nil pass0 (pa_cons (pe_lst (pa_cons (pe_tup (pa_cons pe_str (pa_cons (pe_tup (pa_cons pe_str (pa_cons pe_str (pa_cons (pe_call (ok__law_unary T) (hr.mono (by decide)) (by rfl) T.g__law_unary T.F__law_unary.kp T.b__law_unary .nil pass0 (pa_cons (pv 1) pa_nil)) pa_nil)))) (pa_cons (pe_tup (pa_cons pe_str (pa_cons pe_int pa_nil))) pa_nil)))) pa_nil)) (pa_cons (pv 2) pa_nil))) pa_nil)) (pa_cons (pe_lst pa_nil) pa_nil)))))))
  pss_nil)
  (pss_cons (ps_if (pt_cmpR op_eq (pv 0) pe_int (nomark _))
  (pss_cons (ps_set (i := 6) sc__law_bodies.nd rfl (by first | exact Or.inl rfl | exact Or.inr rfl) (pe_lst (pa_cons (pe_tup (pa_cons pe_str (pa_cons pe_str (pa_cons (pe_lst pa_nil) (pa_cons (pe_lst (pa_cons (pe_call (ok__law_operation T) (hr.mono (by decide)) (by rfl) T.g__law_operation T.F__law_operation.kp T.b__law_operation .nil pass0 (pa_cons pe_str (pa_cons (pe_lst (pa_cons pe_str pa_nil)) (pa_cons (pe_lst pa_nil) (pa_cons (pe_lst pa_nil) pa_nil))))) pa_nil)) pa_nil))))) pa_nil)))
  (pss_one (ps_ret (pe_call (ok__law_whole T) (hr.mono (by decide)) (by rfl) T.g__law_whole T.F__law_whole.kp T.b__law_whole .nil pass0 (pa_cons (pe_lst pa_nil) (pa_cons (pv 6) (pa_cons (pe_lst (pa_cons (pe_call (ok__law_task T) (hr.mono (by decide)) (by rfl) T.g__law_task T.F__law_task.kp T.b__law_task .nil pass0 (pa_cons (pe_lst (pa_cons (pe_tup (pa_cons pe_str (pa_cons pe_non (pa_cons pe_str (pa_cons pe_str (pa_cons (pe_lst (pa_cons (pe_call (ok__law_unary T) (hr.mono (by decide)) (by rfl) T.g__law_unary T.F__law_unary.kp T.b__law_unary .nil pass0 (pa_cons (pv 1) pa_nil)) pa_nil)) pa_nil)))))) pa_nil)) (pa_cons (pv 2) pa_nil))) pa_nil)) (pa_cons (pe_lst pa_nil) pa_nil))))))))
  pss_nil)
  (pss_cons (ps_if (pt_cmpR op_eq (pv 0) pe_int (nomark _))
  (pss_one (ps_ret (pe_call (ok__law_whole T) (hr.mono (by decide)) (by rfl) T.g__law_whole T.F__law_whole.kp T.b__law_whole .nil pass0 (pa_cons (pe_lst pa_nil) (pa_cons (pe_lst pa_nil) (pa_cons (pe_lst (pa_cons (pe_call (ok__law_task T) (hr.mono (by decide)) (by rfl) T.g__law_task T.F__law_task.kp T.b__law_task .nil pass0 (pa_cons (pe_lst pa_nil) (pa_cons (pe_lst (pa_cons (pe_tup (pa_cons pe_str (pa_cons (pv 1) pa_nil))) pa_nil)) pa_nil))) pa_nil)) (pa_cons (pe_lst pa_nil) pa_nil)))))))
  pss_nil)
  (pss_cons (ps_if (pt_cmpR op_eq (pv 0) pe_int (nomark _))
  (pss_one (ps_ret (pe_call (ok__law_whole T) (hr.mono (by decide)) (by rfl) T.g__law_whole T.F__law_whole.kp T.b__law_whole .nil pass0 (pa_cons (pe_lst pa_nil) (pa_cons (pe_lst pa_nil) (pa_cons (pe_lst (pa_cons (pe_call (ok__law_task T) (hr.mono (by decide)) (by rfl) T.g__law_task T.F__law_task.kp T.b__law_task .nil pass0 (pa_cons (pe_lst (pa_cons (pe_tup (pa_cons pe_str (pa_cons pe_str (pa_cons (pv 1) (pa_cons pe_non (pa_cons (pe_lst pa_nil) pa_nil)))))) pa_nil)) (pa_cons (pv 2) pa_nil))) pa_nil)) (pa_cons (pe_lst pa_nil) pa_nil)))))))
  pss_nil)
  (pss_cons (ps_if (pt_cmpR op_eq (pv 0) pe_int (nomark _))
  (pss_one (ps_ret (pe_call (ok__law_whole T) (hr.mono (by decide)) (by rfl) T.g__law_whole T.F__law_whole.kp T.b__law_whole .nil pass0 (pa_cons (pe_lst pa_nil) (pa_cons (pe_lst pa_nil) (pa_cons (pe_lst (pa_cons (pe_tup (pa_cons pe_str (pa_cons pe_str (pa_cons (pv 1) (pa_cons (pe_op op_sub pe_int pe_int) (pa_cons (pe_lst pa_nil) (pa_cons (pe_lst pa_nil) pa_nil))))))) pa_nil)) (pa_cons (pe_lst pa_nil) pa_nil)))))))
  pss_nil)
  (pss_cons (ps_if (pt_cmpR op_eq (pv 0) pe_int (nomark _))
  (pss_one (ps_ret (pe_call (ok__law_whole T) (hr.mono (by decide)) (by rfl) T.g__law_whole T.F__law_whole.kp T.b__law_whole .nil pass0 (pa_cons (pe_lst pa_nil) (pa_cons (pe_lst pa_nil) (pa_cons (pe_lst (pa_cons (pe_tup (pa_cons pe_str (pa_cons pe_str (pa_cons pe_int (pa_cons (pv 1) (pa_cons (pe_lst pa_nil) (pa_cons (pe_lst pa_nil) pa_nil))))))) pa_nil)) (pa_cons (pe_lst pa_nil) pa_nil)))))))
  pss_nil)
  (pss_cons (ps_if (pt_cmpR op_eq (pv 0) pe_int (nomark _))
  (pss_one (ps_ret (pe_call (ok__law_whole T) (hr.mono (by decide)) (by rfl) T.g__law_whole T.F__law_whole.kp T.b__law_whole .nil pass0 (pa_cons (pe_lst pa_nil) (pa_cons (pe_lst pa_nil) (pa_cons (pe_lst (pa_cons (pe_call (ok__law_task T) (hr.mono (by decide)) (by rfl) T.g__law_task T.F__law_task.kp T.b__law_task .nil pass0 (pa_cons (pe_lst (pa_cons (pe_tup (pa_cons pe_str (pa_cons (pe_tup (pa_cons pe_str (pa_cons pe_str pa_nil))) (pa_cons (pe_call (ok__law_wide T) (hr.mono (by decide)) (by rfl) T.g__law_wide T.F__law_wide.kp T.b__law_wide .nil pass0 (pa_cons (pv 1) pa_nil)) pa_nil)))) pa_nil)) (pa_cons (pv 2) pa_nil))) pa_nil)) (pa_cons (pe_lst pa_nil) pa_nil)))))))
  pss_nil)
  (pss_one (ps_ret (pe_call (ok__law_whole T) (hr.mono (by decide)) (by rfl) T.g__law_whole T.F__law_whole.kp T.b__law_whole .nil pass0 (pa_cons (pe_lst pa_nil) (pa_cons (pe_lst pa_nil) (pa_cons (pe_lst (pa_cons (pe_tup (pa_cons pe_str (pa_cons (pe_op op_add_str (pe_op op_add_str pe_str (pe_op op_mul_str pe_str (pe_op op_sub (pv 1) pe_int))) pe_str) (pa_cons pe_int (pa_cons pe_int (pa_cons (pe_lst pa_nil) (pa_cons (pe_lst pa_nil) pa_nil))))))) pa_nil)) (pa_cons (pe_lst pa_nil) pa_nil)))))))))))))))))), ?_⟩
    rw [show ∀ a0 a1 : V, L2.start ["kind", "n", "cells", "rest", "k", "body", "rows"] [a0, a1] = [some a0, some a1, none, none, none, none, none] from fun _ _ => rfl]
    walk_at "my rn"
    intro a0 G1 n1 s1 h1
    walk_at "my rn"
    intro a1 G2 n2 s2 h2
    walk_at "my rn"
    intro XYa G3 n3 s3 h3
    have S3 : Same H G3 := s1.trans (s2.trans s3)
    have dXY : Dp K G3 (.ref XYa) (cellsD XY) := .lst (SqL.of h3) (.cons (.tup (SqT.of ((s2.trans s3) _ _ h1)) (.cons (.str _) (.cons (.int _) .nil))) (.cons (.tup (SqT.of (s3 _ _ h2)) (.cons (.str _) (.cons (.int _) .nil))) .nil))
    walk_at "my rn"
    refine Rd.ifD (fun e => ?_) fun e0 => ?_
    · obtain rfl : k = 0 := by have := V.int.inj e; omega
      have n300 : n ≤ 300 := by omega
      walk_at "my rn"
      refine ⟨by omega, by omega, fun D nD => ?_⟩
      rw [show ((n : Int) - 3).toNat = n - 3 by omega]
      refine lc_dp (K := K) walk_range (List.replicate (n - 3) setX.d) (List.length_replicate ..) nD (by omega) (fun _ _ => trivial) (fun j x Hj Hj' Kt d hj sj hDl y hd kt => ?_) (fun H9 ys s9 hD9 dys => ?_)
      · obtain ⟨rfl, rfl⟩ := Rd.zr y
        have : d = setX.d := List.eq_of_mem_replicate (List.mem_of_getElem? hd)
        subst this
        simp only [List.map_cons, List.map_nil, L2.wipe, List.set_cons_succ, List.set_cons_zero]
        walk_at "my rn"
        refine ⟨rfl, ?_⟩
        walk_at "my rn"
        intro t1 J1 r1 x1 y1
        walk_at "my rn"
        intro t2 J2 r2 x2 y2
        walk_at "my rn"
        intro t3 J3 r3 x3 y3
        exact kt _ _ (x1.trans (x2.trans x3)) (.tup (SqT.of (Cut.at (ofD hDl (x1.trans x2) r3) y3)) (.cons (.str _) (.cons (.tup (SqT.of (Cut.at (ofD hDl (Same.refl _) r1) ((x2.trans x3) _ _ y1))) (.cons (.str _) (.cons (.str _) .nil))) (.cons (.tup (SqT.of (Cut.at (ofD hDl x1 r2) (x3 _ _ y2))) (.cons (.str _) (.cons (.int _) .nil))) .nil))))
      have dys := dps_same Cut.sub dys
      have lys : ys.length = n - 3 := by rw [dps_len dys, List.length_replicate]
      obtain ⟨c1, c2, c3⟩ := dps_cut dys (by omega)
      walk_at "my rn"
      intro t1 J1 r1 x1 y1
      walk_at "my rn"
      refine Rd.slo (x1 _ _ hD9) fun t2 J2 r2 x2 y2 => ?_
      walk_at "my rn"
      intro t3 J3 r3 x3 y3
      walk_at "my rn"
      intro t4 J4 r4 x4 y4
      walk_at "my rn"
      refine Rd.slo ((x1.trans (x2.trans (x3.trans x4))) _ _ hD9) fun t5 J5 r5 x5 y5 => ?_
      walk_at "my rn"
      intro t6 J6 r6 x6 y6
      walk_at "my rn"
      intro t7 J7 r7 x7 y7
      walk_at "my rn"
      intro t8 J8 r8 x8 y8
      walk_at "my rn"
      intro B J9 r9 x9 y9
      walk_at "my rn"
      intro o1 M1 i1 w1 z1
      walk_at "my rn"
      intro o2 M2 i2 w2 z2
      walk_at "my rn"
      intro o3 M3 i3 w3 z3
      walk_at "my rn"
      have X19 := x1.trans (x2.trans (x3.trans (x4.trans (x5.trans (x6.trans (x7.trans (x8.trans x9)))))))
      have W13 := w1.trans (w2.trans w3)
      refine Rd.slo ((X19.trans W13) _ _ hD9) fun R M4 i4 w4 z4 => ?_
      have l4 := cutV_length ys (some 90) none
      refine Rd.catQ (SqL.of ((W13.trans w4) _ _ y9)) (SqL.of z4) (by simp; omega) fun BB M5 i5 w5 z5 => ?_
      have y89 := x9
      have y79 := x8.trans y89
      have y69 := x7.trans y79
      have y59 := x6.trans y69
      have y49 := x5.trans y59
      have y39 := x4.trans y49
      have y29 := x3.trans y39
      have y19 := x2.trans y29
      have W15 := W13.trans (w4.trans w5)
      have dif : Dp K J9 (.ref t4) (Stm.ifs (.num 1) ((List.replicate (n - 3) setX).take 60) []).d := by
        show Dp K J9 (.ref t4) (.tuple [.str "if", (Ex.num 1).d, .list (stmsD _), .list (stmsD [])])
        rw [stmsD_map, List.map_take, List.map_replicate]
        exact .tup (SqT.of (y49 _ _ y4)) (.cons (.str _) (.cons (.tup (SqT.of (y19 _ _ y1)) (.cons (.str _) (.cons (.int _) .nil))) (.cons (.lst (SqL.of (y29 _ _ y2)) (dps_same X19 c1)) (.cons (dp_nil (y39 _ _ y3)) .nil))))
      have dlo : Dp K J9 (.ref t6) (Stm.loop "i" 2 none (((List.replicate (n - 3) setX).drop 60).take 30)).d := by
        show Dp K J9 (.ref t6) (.tuple [.str "loop", .str "i", .int 2, .none, .list (stmsD _)])
        rw [stmsD_map, List.map_take, List.map_drop, List.map_replicate]
        exact .tup (SqT.of (y69 _ _ y6)) (.cons (.str _) (.cons (.str _) (.cons (.int _) (.cons .non (.cons (.lst (SqL.of (y59 _ _ y5)) (dps_same X19 c2)) .nil)))))
      have dwr : Dp K J9 (.ref t8) (Stm.write "q" (.num 1)).d := .tup (SqT.of (y89 _ _ y8)) (.cons (.str _) (.cons (.str _) (.cons (.tup (SqT.of (y79 _ _ y7)) (.cons (.str _) (.cons (.int _) .nil))) .nil)))
      have dbd : Dp K M5 (.ref BB) (.list (stmsD (manyS n))) := by
        refine .lst (SqL.of z5) ?_
        unfold manyS
        rw [stmsD_app]
        refine dps_app (.cons (dp_same W15 dif) (.cons (dp_same W15 dlo) (.cons (dp_same W15 dwr) .nil))) ?_
        rw [stmsD_map, List.map_drop, List.map_replicate]
        exact dps_same (X19.trans W15) c3
      walk_at "my rn"
      refine ⟨_, _, manyS n, XY, rfl, dbd, dp_same (s9.trans (X19.trans W15)) dXY, fun vt M6 w6 dt => ?_⟩
      walk_at "my rn"
      intro o7 M7 i7 w7 z7
      walk_at "my rn"
      intro o8 M8 i8 w8 z8
      walk_at "my rn"
      have W58 := w6.trans (w7.trans w8)
      have W38 := w4.trans (w5.trans W58)
      refine ⟨_, _, _, _, [("out", "q")], [], [jobT (manyS n) XY], [], rfl, .lst (SqL.of ((w3.trans W38) _ _ z2)) (.cons (.tup (SqT.of ((w2.trans (w3.trans W38)) _ _ z1)) (.cons (.str _) (.cons (.str _) .nil))) .nil), dp_nil (W38 _ _ z3), .lst (SqL.of (w8 _ _ z7)) (.cons (dp_same (w7.trans w8) dt) .nil), dp_nil z8, fun v HZ sZ dv => ?_⟩
      exact q _ _ (S3.trans (s9.trans (X19.trans (W15.trans (W58.trans sZ))))) dv
    walk_at "my rn"
    refine Rd.ifD (fun e => ?_) fun e1 => ?_
    · obtain rfl : k = 1 := by have := V.int.inj e; omega
      walk_at "my rn"
      intro o1 M1 i1 w1 z1
      walk_at "my rn"
      intro o2 M2 i2 w2 z2
      walk_at "my rn"
      intro o3 M3 i3 w3 z3
      walk_at "my rn"
      refine ⟨n, _, rfl, by omega, by omega, dp_nil z3, fun vb M4 w4 db => ?_⟩
      walk_at "my rn"
      refine ⟨_, _, deepS (n - 1), XY, rfl, db, dp_same (w1.trans (w2.trans (w3.trans w4))) dXY, fun vt M6 w6 dt => ?_⟩
      walk_at "my rn"
      intro o7 M7 i7 w7 z7
      walk_at "my rn"
      intro o8 M8 i8 w8 z8
      walk_at "my rn"
      have W68 := w7.trans w8
      have W28 := (w3.trans w4).trans (w6.trans W68)
      refine ⟨_, _, _, _, [], [], [jobT (deepS (n - 1)) XY], [], rfl, dp_nil ((w2.trans W28) _ _ z1), dp_nil (W28 _ _ z2), .lst (SqL.of (w8 _ _ z7)) (.cons (dp_same W68 dt) .nil), dp_nil z8, fun v HZ sZ dv => ?_⟩
      exact q _ _ (S3.trans (w1.trans (w2.trans (W28.trans sZ)))) dv
    walk_at "my rn"
    refine Rd.ifD (fun e => ?_) fun e2 => ?_
    · obtain rfl : k = 2 := by have := V.int.inj e; omega
      walk_at "my rn"
      intro o1 M1 i1 w1 z1
      walk_at "my rn"
      intro o2 M2 i2 w2 z2
      walk_at "my rn"
      refine ⟨n, rfl, by omega, fun vb M4 w4 db => ?_⟩
      walk_at "my rn"
      refine ⟨_, _, loopsS n, XY, rfl, db, dp_same (w1.trans (w2.trans w4)) dXY, fun vt M6 w6 dt => ?_⟩
      walk_at "my rn"
      intro o7 M7 i7 w7 z7
      walk_at "my rn"
      intro o8 M8 i8 w8 z8
      walk_at "my rn"
      have W68 := w7.trans w8
      have W28 := w4.trans (w6.trans W68)
      refine ⟨_, _, _, _, [], [], [jobT (loopsS n) XY], [], rfl, dp_nil ((w2.trans W28) _ _ z1), dp_nil (W28 _ _ z2), .lst (SqL.of (w8 _ _ z7)) (.cons (dp_same W68 dt) .nil), dp_nil z8, fun v HZ sZ dv => ?_⟩
      exact q _ _ (S3.trans (w1.trans (w2.trans (W28.trans sZ)))) dv
    walk_at "my rn"
    refine Rd.ifD (fun e => ?_) fun e3 => ?_
    · obtain rfl : k = 3 := by have := V.int.inj e; omega
      walk_at "my rn"
      intro o1 M1 i1 w1 z1
      walk_at "my rn"
      intro o2 M2 i2 w2 z2
      walk_at "my rn"
      refine ⟨n, rfl, by omega, by omega, fun vu M3 w3 du => ?_⟩
      walk_at "my rn"
      intro p1 J1 r1 x1 y1
      walk_at "my rn"
      intro p2 J2 r2 x2 y2
      walk_at "my rn"
      intro p3 J3 r3 x3 y3
      walk_at "my rn"
      intro p4 J4 r4 x4 y4
      walk_at "my rn"
      have X14 := x1.trans (x2.trans (x3.trans x4))
      refine ⟨_, _, [.set (.at "y" (unE (n - 1))) (.num 1)], XY, rfl, .lst (SqL.of y4) (.cons (.tup (SqT.of (x4 _ _ y3)) (.cons (.str _) (.cons (.tup (SqT.of ((x2.trans (x3.trans x4)) _ _ y1)) (.cons (.str _) (.cons (.str _) (.cons (dp_same X14 du) .nil)))) (.cons (.tup (SqT.of ((x3.trans x4) _ _ y2)) (.cons (.str _) (.cons (.int _) .nil))) .nil)))) .nil), dp_same (w1.trans (w2.trans (w3.trans X14))) dXY, fun vt M6 w6 dt => ?_⟩
      walk_at "my rn"
      intro o7 M7 i7 w7 z7
      walk_at "my rn"
      intro o8 M8 i8 w8 z8
      walk_at "my rn"
      have W68 := w7.trans w8
      have W28 := (w3.trans X14).trans (w6.trans W68)
      refine ⟨_, _, _, _, [], [], [jobT [.set (.at "y" (unE (n - 1))) (.num 1)] XY], [], rfl, dp_nil ((w2.trans W28) _ _ z1), dp_nil (W28 _ _ z2), .lst (SqL.of (w8 _ _ z7)) (.cons (dp_same W68 dt) .nil), dp_nil z8, fun v HZ sZ dv => ?_⟩
      exact q _ _ (S3.trans (w1.trans (w2.trans (W28.trans sZ)))) dv
    walk_at "my rn"
    refine Rd.ifD (fun e => ?_) fun e4 => ?_
    · obtain rfl : k = 4 := by have := V.int.inj e; omega
      walk_at "my rn"
      intro c1 H1 m1 z1 w1
      walk_at "my rn"
      intro c2 H2 m2 z2 w2
      walk_at "my rn"
      intro c3 H3 m3 z3 w3
      walk_at "my rn"
      intro c4 H4 m4 z4 w4
      walk_at "my rn"
      have da : Dp K H4 (.ref c2) (.list (([("a" : Str)]).map PyData.str)) := .lst (SqL.of ((z3.trans z4) _ _ w2)) (.cons (.str _) .nil)
      refine ⟨"f", _, _, _, ["a"], [], [], rfl, da, dp_nil (z4 _ _ w3), dp_nil w4, fun tf H5 z5 n5 w5 => ?_⟩
      have dop := opd (cs := []) (bs := []) z5 w5 da (dp_nil (z4 _ _ w3)) (dp_nil w4)
      walk_at "my rn"
      intro cL HL mL zL wL
      walk_at "my rn"
      intro c6 H6 m6 z6 w6
      walk_at "my rn"
      intro c7 H7 m7 z7 w7
      walk_at "my rn"
      intro d1 M1 i1 u1 v1
      walk_at "my rn"
      refine ⟨n, rfl, by omega, by omega, fun vu M2 u2 du => ?_⟩
      walk_at "my rn"
      intro d3 M3 i3 u3 v3
      walk_at "my rn"
      intro d4 M4 i4 u4 v4
      walk_at "my rn"
      intro d5 M5 i5 u5 v5
      walk_at "my rn"
      have Z27 := z2.trans (z3.trans (z4.trans (z5.trans (zL.trans (z6.trans z7)))))
      have U35 := u3.trans (u4.trans u5)
      have U15 := u1.trans (u2.trans U35)
      refine ⟨_, _, [.call none "o" "f" [unE (n - 1)]], XY, rfl, .lst (SqL.of v5) (.cons (.tup (SqT.of (u5 _ _ v4)) (.cons (.str _) (.cons .non (.cons (.str _) (.cons (.str _) (.cons (.lst (SqL.of ((u4.trans u5) _ _ v3)) (.cons (dp_same U35 du) .nil)) .nil)))))) .nil), dp_same (z1.trans (Z27.trans U15)) dXY, fun vt M6 u6 dt => ?_⟩
      walk_at "my rn"
      intro d7 M7 i7 u7 v7
      walk_at "my rn"
      intro d8 M8 i8 u8 v8
      walk_at "my rn"
      have U28 := u2.trans (U35.trans (u6.trans (u7.trans u8)))
      have U18 := u1.trans U28
      have dob : Dp K M8 (.ref c7) (.list ([ObT.mk "o" [] [⟨"f", ["a"], [], [], none⟩]].map ObT.d)) := .lst (SqL.of (U18 _ _ w7)) (.cons (.tup (SqT.of ((z7.trans U18) _ _ w6)) (.cons (.str _) (.cons (.str _) (.cons (dp_nil ((Z27.trans U18) _ _ w1)) (.cons (.lst (SqL.of ((z6.trans (z7.trans U18)) _ _ wL)) (.cons (dp_same (zL.trans (z6.trans (z7.trans U18))) dop) .nil)) .nil))))) .nil)
      refine ⟨_, _, _, _, [], [⟨"o", [], [⟨"f", ["a"], [], [], none⟩]⟩], [jobT [.call none "o" "f" [unE (n - 1)]] XY], [], rfl, dp_nil (U28 _ _ v1), dob, .lst (SqL.of (u8 _ _ v7)) (.cons (dp_same (u7.trans u8) dt) .nil), dp_nil v8, fun v HZ sZ dv => ?_⟩
      exact q _ _ (S3.trans (z1.trans (Z27.trans (U18.trans sZ)))) dv
    walk_at "my rn"
    refine Rd.ifD (fun e => ?_) fun e5 => ?_
    · obtain rfl : k = 5 := by have := V.int.inj e; omega
      walk_at "my rn"
      intro o1 M1 i1 w1 z1
      walk_at "my rn"
      intro o2 M2 i2 w2 z2
      walk_at "my rn"
      intro o3 M3 i3 w3 z3
      walk_at "my rn"
      intro o4 M4 i4 w4 z4
      walk_at "my rn"
      intro o5 M5 i5 w5 z5
      walk_at "my rn"
      refine ⟨_, _, [], [("x", (n : Int))], rfl, dp_nil ((w4.trans w5) _ _ z3), .lst (SqL.of z5) (.cons (.tup (SqT.of (w5 _ _ z4)) (.cons (.str _) (.cons (.int _) .nil))) .nil), fun vt M6 w6 dt => ?_⟩
      walk_at "my rn"
      intro o7 M7 i7 w7 z7
      walk_at "my rn"
      intro o8 M8 i8 w8 z8
      walk_at "my rn"
      have W68 := w7.trans w8
      have W28 := (w3.trans (w4.trans w5)).trans (w6.trans W68)
      refine ⟨_, _, _, _, [], [], [jobT [] [("x", (n : Int))]], [], rfl, dp_nil ((w2.trans W28) _ _ z1), dp_nil (W28 _ _ z2), .lst (SqL.of (w8 _ _ z7)) (.cons (dp_same W68 dt) .nil), dp_nil z8, fun v HZ sZ dv => ?_⟩
      exact q _ _ (S3.trans (w1.trans (w2.trans (W28.trans sZ)))) dv
    walk_at "my rn"
    refine Rd.ifD (fun e => ?_) fun e6 => ?_
    · obtain rfl : k = 6 := by have := V.int.inj e; omega
      walk_at "my rn"
      intro o1 M1 i1 w1 z1
      walk_at "my rn"
      intro o2 M2 i2 w2 z2
      walk_at "my rn"
      intro o3 M3 i3 w3 z3
      walk_at "my rn"
      intro o4 M4 i4 w4 z4
      walk_at "my rn"
      intro o5 M5 i5 w5 z5
      walk_at "my rn"
      refine ⟨_, _, [.loop "i" (n : Int) none []], XY, rfl, .lst (SqL.of z5) (.cons (.tup (SqT.of (w5 _ _ z4)) (.cons (.str _) (.cons (.str _) (.cons (.int _) (.cons .non (.cons (dp_nil ((w4.trans w5) _ _ z3)) .nil)))))) .nil), dp_same (w1.trans (w2.trans (w3.trans (w4.trans w5)))) dXY, fun vt M6 w6 dt => ?_⟩
      walk_at "my rn"
      intro o7 M7 i7 w7 z7
      walk_at "my rn"
      intro o8 M8 i8 w8 z8
      walk_at "my rn"
      have W68 := w7.trans w8
      have W28 := (w3.trans (w4.trans w5)).trans (w6.trans W68)
      refine ⟨_, _, _, _, [], [], [jobT [.loop "i" (n : Int) none []] XY], [], rfl, dp_nil ((w2.trans W28) _ _ z1), dp_nil (W28 _ _ z2), .lst (SqL.of (w8 _ _ z7)) (.cons (dp_same W68 dt) .nil), dp_nil z8, fun v HZ sZ dv => ?_⟩
      exact q _ _ (S3.trans (w1.trans (w2.trans (W28.trans sZ)))) dv
    walk_at "my rn"
    refine Rd.ifD (fun e => ?_) fun e7 => ?_
    · obtain rfl : k = 7 := by have := V.int.inj e; omega
      walk_at "my rn"
      intro o1 M1 i1 w1 z1
      walk_at "my rn"
      intro o2 M2 i2 w2 z2
      walk_at "my rn"
      intro o3 M3 i3 w3 z3
      walk_at "my rn"
      intro o4 M4 i4 w4 z4
      walk_at "my rn"
      intro o5 M5 i5 w5 z5
      walk_at "my rn"
      intro o7 M7 i7 w7 z7
      walk_at "my rn"
      intro o8 M8 i8 w8 z8
      walk_at "my rn"
      have W48 := w5.trans (w7.trans w8)
      have W28 := w3.trans (w4.trans W48)
      refine ⟨_, _, _, _, [], [], [⟨"t", (n : Int), 4194297, [], []⟩], [], rfl, dp_nil ((w2.trans W28) _ _ z1), dp_nil (W28 _ _ z2), .lst (SqL.of (w8 _ _ z7)) (.cons (.tup (SqT.of ((w7.trans w8) _ _ z5)) (.cons (.str _) (.cons (.str _) (.cons (.int _) (.cons (.int _) (.cons (dp_nil ((w4.trans W48) _ _ z3)) (.cons (dp_nil (W48 _ _ z4)) .nil))))))) .nil), dp_nil z8, fun v HZ sZ dv => ?_⟩
      exact q _ _ (S3.trans (w1.trans (w2.trans (W28.trans sZ)))) dv
    walk_at "my rn"
    refine Rd.ifD (fun e => ?_) fun e8 => ?_
    · obtain rfl : k = 8 := by have := V.int.inj e; omega
      walk_at "my rn"
      intro o1 M1 i1 w1 z1
      walk_at "my rn"
      intro o2 M2 i2 w2 z2
      walk_at "my rn"
      intro o3 M3 i3 w3 z3
      walk_at "my rn"
      intro o4 M4 i4 w4 z4
      walk_at "my rn"
      intro o5 M5 i5 w5 z5
      walk_at "my rn"
      intro o7 M7 i7 w7 z7
      walk_at "my rn"
      intro o8 M8 i8 w8 z8
      walk_at "my rn"
      have W48 := w5.trans (w7.trans w8)
      have W28 := w3.trans (w4.trans W48)
      refine ⟨_, _, _, _, [], [], [⟨"t", 50, (n : Int), [], []⟩], [], rfl, dp_nil ((w2.trans W28) _ _ z1), dp_nil (W28 _ _ z2), .lst (SqL.of (w8 _ _ z7)) (.cons (.tup (SqT.of ((w7.trans w8) _ _ z5)) (.cons (.str _) (.cons (.str _) (.cons (.int _) (.cons (.int _) (.cons (dp_nil ((w4.trans W48) _ _ z3)) (.cons (dp_nil (W48 _ _ z4)) .nil))))))) .nil), dp_nil z8, fun v HZ sZ dv => ?_⟩
      exact q _ _ (S3.trans (w1.trans (w2.trans (W28.trans sZ)))) dv
    walk_at "my rn"
    refine Rd.ifD (fun e => ?_) fun e9 => ?_
    · obtain rfl : k = 9 := by have := V.int.inj e; omega
      walk_at "my rn"
      intro o1 M1 i1 w1 z1
      walk_at "my rn"
      intro o2 M2 i2 w2 z2
      walk_at "my rn"
      intro o3 M3 i3 w3 z3
      walk_at "my rn"
      refine ⟨n, rfl, by omega, fun vw M4 w4 dw => ?_⟩
      walk_at "my rn"
      intro o5 M5 i5 w5 z5
      walk_at "my rn"
      intro o6 M6_ i6 w6_ z6
      walk_at "my rn"
      have X := w3.trans (w4.trans (w5.trans w6_))
      refine ⟨_, _, [.set (.cell "x") (wideE n)], XY, rfl, .lst (SqL.of z6) (.cons (.tup (SqT.of (w6_ _ _ z5)) (.cons (.str _) (.cons (.tup (SqT.of ((w4.trans (w5.trans w6_)) _ _ z3)) (.cons (.str _) (.cons (.str _) .nil))) (.cons (dp_same (w5.trans w6_) dw) .nil)))) .nil), dp_same (w1.trans (w2.trans X)) dXY, fun vt M6 w6 dt => ?_⟩
      walk_at "my rn"
      intro o7 M7 i7 w7 z7
      walk_at "my rn"
      intro o8 M8 i8 w8 z8
      walk_at "my rn"
      have W68 := w7.trans w8
      have W28 := X.trans (w6.trans W68)
      refine ⟨_, _, _, _, [], [], [jobT [.set (.cell "x") (wideE n)] XY], [], rfl, dp_nil ((w2.trans W28) _ _ z1), dp_nil (W28 _ _ z2), .lst (SqL.of (w8 _ _ z7)) (.cons (dp_same W68 dt) .nil), dp_nil z8, fun v HZ sZ dv => ?_⟩
      exact q _ _ (S3.trans (w1.trans (w2.trans (W28.trans sZ)))) dv
    have hk10 : k = 10 := by
      have z : ∀ j : Nat, ¬ (V.int (k : Int) = V.int (j : Int)) → k ≠ j := fun j h e => h (by rw [e])
      have := z 0 e0
      have := z 1 e1
      have := z 2 e2
      have := z 3 e3
      have := z 4 e4
      have := z 5 e5
      have := z 6 e6
      have := z 7 e7
      have := z 8 e8
      have := z 9 e9
      omega
    subst hk10
    have n100 := hs (by omega)
    walk_at "my rn"
    intro o1 M1 i1 w1 z1
    walk_at "my rn"
    intro o2 M2 i2 w2 z2
    walk_at "my rn"
    refine ⟨[95], (n : Int) - 2, rfl, rfl, by omega, by omega, by decide, ?_⟩
    rw [show ((n : Int) - 2).toNat = n - 2 by omega]
    have lS : (S (List.replicate (n - 2) [95]).flatten).length ≤ 100 := by
      rw [SX.S_len]
      have : ∀ m : Nat, ((List.replicate m [95]).flatten).length = m := fun m => by
        induction m with
        | zero => rfl
        | succ m ih => rw [List.replicate_succ, List.flatten_cons, List.length_append, ih]; show 1 + m = m + 1; omega
      rw [this]; omega
    have lT : ("T" : Str).length = 1 := rfl
    have l9 : ("9" : Str).length = 1 := rfl
    refine ⟨_, _, rfl, rfl, Rd.sz (by omega), ?_⟩
    refine ⟨_, _, rfl, rfl, Rd.sz (by rw [strLen_append]; omega), ?_⟩
    walk_at "my rn"
    intro o3 M3 i3 w3 z3
    walk_at "my rn"
    intro o4 M4 i4 w4 z4
    walk_at "my rn"
    intro o5 M5 i5 w5 z5
    walk_at "my rn"
    intro o7 M7 i7 w7 z7
    walk_at "my rn"
    intro o8 M8 i8 w8 z8
    walk_at "my rn"
    have W48 := w5.trans (w7.trans w8)
    have W28 := w3.trans (w4.trans W48)
    refine ⟨_, _, _, _, [], [], [⟨longN n, 9, 9, [], []⟩], [], rfl, dp_nil ((w2.trans W28) _ _ z1), dp_nil (W28 _ _ z2), .lst (SqL.of (w8 _ _ z7)) (.cons (.tup (SqT.of ((w7.trans w8) _ _ z5)) (.cons (.str _) (.cons (.str _) (.cons (.int _) (.cons (.int _) (.cons (dp_nil ((w4.trans W48) _ _ z3)) (.cons (dp_nil (W48 _ _ z4)) .nil))))))) .nil), dp_nil z8, fun v HZ sZ dv => ?_⟩
    exact q _ _ (S3.trans (w1.trans (w2.trans (W28.trans sZ)))) dv
end


set_option Elab.async false
set_option linter.all false
set_option maxRecDepth 100000
set_option maxHeartbeats 1000000
--@@rec _check_statements _check_statement

--@@guards



/-! ### the law's own defs -/
def OutT : Option Str → List V
  | none => [.str "", .int 0]
  | some z => [.str z, .int 1]
theorem inL {K : PySem.W.Frag} {H : Hp} {Q : VK} {p : Addr} {ns : List Int} {n : Int} (h : H p = some (.lst (ns.map V.int))) (q : Q (.bl (decide (n ∈ ns))) H) : rIn K false (.int n) (.ref p) H Q :=
  ⟨p, _, rfl, .inl (SqL.of h), rfl, Rd.flat_ints _, by rw [Rd.inV_ints]; exact q⟩
section
variable {P : Program} {w : World} {K : PySem.W.Frag} {mg : Str → Option Value} {base : Heap}
def sp__law_rule (K : PySem.W.Frag) : Sp := fun vs H Q E => ∃ (v : V) (pg : PgT), vs = [v] ∧ Dp K H v pg.d ∧ pg.ok = true ∧ ∀ (t : Addr) H', Same H H' → H t = none → H' t = some (.tup (OutT (mCheck pg))) → Q (.ref t) H'
theorem ok__law_rule (T : Top P K mg) : FnOk P w K mg base CX0 51 T.a__law_rule T.d__law_rule ["program"]  (sp__law_rule K) := by
  refine T.F__law_rule.ok sc__law_rule (fun vs H Q E h => ?_) (fun cdv A outer s H vs Q E hr h => ?_)
  · obtain ⟨_, _, rfl, _⟩ := h
    rfl
  · obtain ⟨v, pg, rfl, dv, pok, q⟩ := h
    refine ⟨_, (pss_cons (ps_try_as (i := 1) (Wout := fun _ _ _ _ => False) rfl rfl sc__law_rule.nd rfl rfl ⟨rfl, by decide, Or.inl T.gc_RuleError⟩ takes0 (fun W pn xe tk _ => (pss_one (ps_expr (pe_callS (ok_check T) (hr.mono (by decide)) (by rfl) T.g_check T.F_check.kp T.b_check (fun σ => passAt tk σ) (pa_cons (pv 0) pa_nil))))) (fun a oe cls d pn hz hf => (pss_one (ps_ret (pe_tup (by exact (pa_cons (pe_xf T.xf_RuleError T.x_RuleError.noN hz hf (pv 1)) (pa_cons pe_int pa_nil))))))))
  (pss_one (ps_ret (pe_tup (pa_cons pe_str (pa_cons pe_int pa_nil)))))), ?_⟩
    rw [show ∀ a0 : V, L2.start ["program", "e"] [a0] = [some a0, none] from fun _ => rfl]
    walk_at "my rn"
    refine ⟨v, pg, rfl, dv, pok, fun e0 H1 s1 => ?_, fun z e0 H1 d s1 nd hd => ?_⟩
    · rw [e0] at q
      walk_at "my rn"
      intro t H2 nt s2 ht
      exact q t H2 (s1.trans s2) (s1.free nt) ht
    · rw [e0] at q
      refine ⟨true, T.x_RuleError.te, fun _ a na => ?_, fun q => Bool.noConfusion q⟩
      refine ⟨_, rfl, rfl, rfl, d, _, _, rfl, hd, rfl, by show 2 ≤ sizeLine; decide, fun t nt => ?_⟩
      exact q t _ (s1.trans (same_new nt)) (s1.free nt) upd_same
end

/-! ### how long data is when it is shown -/
structure Rp (m n : Nat) (d : PyData) : Prop where
  sh : d.showable = true
  nd : d.hasDict = false
  dp : d.depth ≤ m
  ln : d.shown.length ≤ n
structure RpL (m n : Nat) (ds : List PyData) : Prop where
  sh : PyData.showableAll ds = true
  nd : PyData.hasDictAll ds = false
  dp : PyData.depthAll ds ≤ m
  ln : piled (PyData.shownAll ds) ≤ n
theorem Rp.mono {m n m' n' : Nat} {d : PyData} (h : Rp m n d) (h1 : m ≤ m') (h2 : n ≤ n') : Rp m' n' d := ⟨h.sh, h.nd, Nat.le_trans h.dp h1, Nat.le_trans h.ln h2⟩
theorem RpL.mono {m n m' n' : Nat} {d : List PyData} (h : RpL m n d) (h1 : m ≤ m') (h2 : n ≤ n') : RpL m' n' d := ⟨h.sh, h.nd, Nat.le_trans h.dp h1, Nat.le_trans h.ln h2⟩
theorem RpL.nil {m : Nat} : RpL m 0 [] := ⟨rfl, rfl, Nat.zero_le _, Nat.le_refl _⟩
theorem RpL.cons {m n k : Nat} {d : PyData} {ds : List PyData} (h : Rp m n d) (g : RpL m k ds) : RpL m (n + 2 + k) (d :: ds) := by
  refine ⟨?_, ?_, ?_, ?_⟩
  · show (d.showable && PyData.showableAll ds) = true
    rw [h.sh, g.sh]; rfl
  · show (d.hasDict || PyData.hasDictAll ds) = false
    rw [h.nd, g.nd]; rfl
  · show max d.depth (PyData.depthAll ds) ≤ m
    exact Nat.max_le.mpr ⟨h.dp, g.dp⟩
  · show piled (d.shown :: PyData.shownAll ds) ≤ _
    rw [piled_cons]
    have := h.ln
    have := g.ln
    omega
theorem RpL.all {m n : Nat} : ∀ {ds : List PyData}, (∀ d ∈ ds, Rp m n d) → RpL m (ds.length * (n + 2)) ds
  | [], _ => RpL.nil.mono (Nat.le_refl _) (Nat.zero_le _)
  | d :: r, h => by
    refine (RpL.cons (h d (List.mem_cons_self ..)) (RpL.all fun e m => h e (List.mem_cons_of_mem _ m))).mono (Nat.le_refl _) ?_
    rw [List.length_cons, Nat.succ_mul]
    omega
theorem RpL.upto {m n k : Nat} {ds : List PyData} (h : ∀ d ∈ ds, Rp m n d) (l : ds.length ≤ k) : RpL m (k * (n + 2)) ds := (RpL.all h).mono (Nat.le_refl _) (Nat.mul_le_mul l (Nat.le_refl _))
theorem join_len (ts : List Str) : (Str.join ", " ts).length ≤ piled ts := by
  by_cases h : ts = []
  · subst h; exact Nat.le_refl _
  · have := join_length_add ts h
    omega
theorem textFrom_le : ∀ (ts : List Str) (k : Nat) (acc : Str), (textFrom k acc ts).length ≤ acc.length + piled ts
  | [], _, _ => Nat.le_add_right _ _
  | t :: r, k, acc => by
    have h := textFrom_le r (k + 1) (acc ++ (if k > 0 then ", " else "" : String) ++ t)
    have e : (acc ++ (if k > 0 then ", " else "" : String) ++ t).length ≤ acc.length + 2 + t.length := by
      rw [strLen_append, strLen_append]
      split
      · have : ((", " : String) : Str).length = 2 := rfl
        omega
      · have : (("" : String) : Str).length = 0 := rfl
        omega
    rw [piled_cons]
    show (textFrom (k + 1) _ r).length ≤ _
    omega
theorem RpL.tup {m n : Nat} {ds : List PyData} (h : RpL m n ds) : Rp (m + 1) (n + 3) (.tuple ds) := by
  refine ⟨h.sh, h.nd, ?_, ?_⟩
  · show PyData.depthAll ds + 1 ≤ _
    have := h.dp
    omega
  · show (tupleText (PyData.shownAll ds)).length ≤ _
    unfold tupleText
    rw [strLen_append, strLen_append]
    have e1 : ((("(" : String) : Str)).length = 1 := rfl
    have e3 : (((if (PyData.shownAll ds).length == 1 then ",)" else ")" : String) : Str)).length ≤ 2 := by split <;> decide
    have := join_len (PyData.shownAll ds)
    have := h.ln
    omega
theorem RpL.lst {m n : Nat} {ds : List PyData} (h : RpL m n ds) : Rp (m + 1) (n + 3) (.list ds) := by
  refine ⟨h.sh, h.nd, ?_, ?_⟩
  · show PyData.depthAll ds + 1 ≤ _
    have := h.dp
    omega
  · show (listText (PyData.shownAll ds)).length ≤ _
    unfold listText
    rw [strLen_append]
    have := textFrom_le (PyData.shownAll ds) 0 "["
    have e1 : ((("[" : String) : Str)).length = 1 := rfl
    have e2 : ((("]" : String) : Str)).length = 1 := rfl
    have := h.ln
    omega
/-- a short string of plain signs -/
def Ok (k : Nat) (s : Str) : Prop := s.length ≤ k ∧ ∀ c ∈ s.cps.toList, c < 16 ^ 8
instance (k : Nat) (s : Str) : Decidable (Ok k s) := by unfold Ok; infer_instance
theorem Rp.str {k : Nat} {s : Str} (h : Ok k s) : Rp 0 (10 * k + 2) (.str s) := ⟨rfl, rfl, Nat.le_refl _, by
  show (reprText s).length ≤ _
  have := StrLaws.reprText_len s h.2
  have := h.1
  omega⟩
theorem Rp.none {m n : Nat} (h : 4 ≤ n) : Rp m n .none := ⟨rfl, rfl, Nat.zero_le _, h⟩
theorem Rp.nat {i : Int} (h0 : 0 ≤ i) (h1 : i < 4294967296) : Rp 0 52 (.int i) := by
  obtain ⟨n, rfl⟩ : ∃ n : Nat, i = n := ⟨i.toNat, by omega⟩
  refine ⟨decide_eq_true (dec_log n (by omega)), rfl, Nat.le_refl _, ?_⟩
  have := dec_str n (by omega)
  show (Str.ofString (toString ((n : Nat) : Int))).length ≤ 52
  omega

/-! ### a bound of what is shown, by computing -/
mutual
def lkB : PyData → Bool
  | .str s => decide (Ok 20 s)
  | .int i => (decide (0 ≤ i) && decide (i < 4294967296)) || decide (i = -1)
  | .none => true
  | .tuple ds => lkBA ds
  | .list ds => lkBA ds
  | .bool _ => false
  | .dict _ => false
def lkBA : List PyData → Bool
  | [] => true
  | d :: r => lkB d && lkBA r
end
mutual
def bd : PyData → Nat
  | .tuple ds => bdA ds + 3
  | .list ds => bdA ds + 3
  | .str _ => 202
  | .int _ => 202
  | .none => 202
  | .bool _ => 202
  | .dict _ => 202
def bdA : List PyData → Nat
  | [] => 0
  | d :: r => bd d + 2 + bdA r
end
mutual
theorem rp_bd : ∀ (d : PyData), lkB d = true → Rp d.depth (bd d) d
  | .str s, h => (Rp.str (show Ok 20 s from of_decide_eq_true h)).mono (Nat.zero_le _) (by show 202 ≤ 202; decide)
  | .int i, h => by
    have h : ((decide (0 ≤ i) && decide (i < 4294967296)) || decide (i = -1)) = true := h
    rw [Bool.or_eq_true, Bool.and_eq_true] at h
    rcases h with ⟨h1, h2⟩ | h
    · exact (Rp.nat (of_decide_eq_true h1) (of_decide_eq_true h2)).mono (Nat.zero_le _) (by show 52 ≤ 202; decide)
    · rw [of_decide_eq_true h]
      exact ⟨by decide +kernel, rfl, Nat.zero_le _, by decide +kernel⟩
  | .none, h => ⟨rfl, rfl, Nat.zero_le _, by decide +kernel⟩
  | .tuple ds, h => (rpl_bd ds h).tup
  | .list ds, h => (rpl_bd ds h).lst
  | .bool _, h => by cases h
  | .dict _, h => by cases h
theorem rpl_bd : ∀ (ds : List PyData), lkBA ds = true → RpL (PyData.depthAll ds) (bdA ds) ds
  | [], _ => RpL.nil.mono (Nat.zero_le _) (Nat.zero_le _)
  | d :: r, h => by
    have h : (lkB d && lkBA r) = true := h
    rw [Bool.and_eq_true] at h
    exact RpL.cons ((rp_bd d h.1).mono (Nat.le_max_left _ _) (Nat.le_refl _)) ((rpl_bd r h.2).mono (Nat.le_max_right _ _) (Nat.le_refl _))
end

/-! ### the law -/
def OutD : Option Str → PyData
  | none => .tuple [.str "", .int 0]
  | some z => .tuple [.str z, .int 1]
theorem outD_at {K : PySem.W.Frag} {H : Hp} {t : Addr} {r : Option Str} (h : H t = some (.tup (OutT r))) : Dp K H (.ref t) (OutD r) := by
  cases r with
  | none => exact .tup (SqT.of h) (.cons (.str _) (.cons (.int _) .nil))
  | some z => exact .tup (SqT.of h) (.cons (.str _) (.cons (.int _) .nil))
theorem out_sh {r : Option Str} (h : r = none ∨ r = some "size" ∨ r = some "name") : SeqAt.shaped (OutD r) = true := by
  rcases h with rfl | rfl | rfl <;> decide +kernel
theorem out_eq (r : Option Str) : PyData.eqv (OutD r) (OutD r) = true := by
  cases r with
  | none => decide +kernel
  | some z =>
    show PyData.eqv (.tuple [.str z, .int 1]) (.tuple [.str z, .int 1]) = true
    simp only [PyData.eqv, PyData.eqvAll]
    simp
theorem rule_or (k : Nat) : ruleK k = "size" ∨ ruleK k = "name" := by
  unfold ruleK
  split
  · exact .inr rfl
  · exact .inl rfl


theorem lim_lk : ∀ k, k < 21 → (lkB (pgK k (LIM.getD k 0)).d = true ∧ bd (pgK k (LIM.getD k 0)).d ≤ 400000 ∧ (pgK k (LIM.getD k 0)).d.depth ≤ 60) ∧ (lkB (pgK k (LIM.getD k 0 + 1)).d = true ∧ bd (pgK k (LIM.getD k 0 + 1)).d ≤ 400000 ∧ (pgK k (LIM.getD k 0 + 1)).d.depth ≤ 60) := by decide +kernel
theorem lim_c : ∀ k, k < 10 → LIM.getD k 0 + 1 ≤ 50 := by decide
theorem lim_b : ∀ k, k < 21 → ¬ k < 10 → 3 ≤ LIM.getD k 0 ∧ (k - 10 = 0 → 150 ≤ LIM.getD k 0) ∧ (LIM.getD k 0 + 1 ≤ 300 ∨ k - 10 = 7) ∧ (k - 10 = 1 ∨ k - 10 = 3 ∨ k - 10 = 4 ∨ k - 10 = 9 ∨ k - 10 = 2 ∨ k - 10 = 10 → LIM.getD k 0 + 1 ≤ 100) := by decide
theorem two_rp {d e : PyData} (h : lkB d = true ∧ bd d ≤ 400000 ∧ d.depth ≤ 60) (g : lkB e = true ∧ bd e ≤ 400000 ∧ e.depth ≤ 60) : Rp 61 900000 (.list [d, e]) :=
  (RpL.lst (.cons ((rp_bd d h.1).mono h.2.2 h.2.1) (.cons ((rp_bd e g.1).mono g.2.2 g.2.1) .nil))).mono (Nat.le_refl _) (by decide)
section
variable {P : Program} {w : World} {K : PySem.W.Frag} {mg : Str → Option Value} {base : Heap}
theorem abs_nn (n : Int) : 0 ≤ (if n < 0 then -n else n) := by
  split <;> omega
def LIMI : List Int := [8, 4, 4, 2, 8, 8, 16, 16, 16, 4, 200, 8, 4, 6, 4, 64, 64, 4194304, 50, 40, 16]
def sp_law (K : PySem.W.Frag) : Sp := fun vs H Q _ => ∃ (a : Addr) (ns : List Int), vs = [.ref a] ∧ SqL K H a (ns.map V.int) ∧ ns.length ≤ 63 ∧ ∀ H', Q (.bl true) H'
theorem ok_law (T : Top P K mg) : FnG P w K mg base 52 T.a_law T.d_law ["script"]  (sp_law K) := by
  refine T.F_law.okG sc_law (fun vs H Q E h => ?_) (fun cdv A outer s H vs Q E gA hr h => ?_)
  · obtain ⟨_, _, rfl, _⟩ := h
    rfl
  · obtain ⟨l, ns, rfl, hS, hlen, q⟩ := h
    refine ⟨_, (pss_cons (ps_set (i := 1) sc_law.nd rfl (by first | exact Or.inl rfl | exact Or.inr rfl) pe_int)
  (pss_cons (ps_for PassesOwn.never rfl (pi_range1 (by rfl) T.m_range (pa_cons (pe_callB call_len_seq (by rfl) T.m_len PySem.boot_len (pa_cons (pv 0) pa_nil)) pa_nil)) (pg_name (i := 2) sc_law.nd rfl (by first | exact Or.inl rfl | exact Or.inr rfl))
  (pss_one (ps_set (i := 1) sc_law.nd rfl (by first | exact Or.inl rfl | exact Or.inr rfl) (pe_op op_add (pv 1) (pe_op op_mul (pe_callB call_abs (by rfl) T.m_abs (by decide +kernel) (pa_cons (pe_callTy call_int1 (by rfl) T.m_int (by decide +kernel) (pa_cons (pe_ix ix_list (pv 0) (pv 2) (fun _ _ => rfl)) pa_nil)) pa_nil)) (pe_op op_add pe_int (pv 2)))))))
  (pss_cons (ps_set (i := 3) sc_law.nd rfl (by first | exact Or.inl rfl | exact Or.inr rfl) (pe_op op_mod (pe_callTy call_int1 (by rfl) T.m_int (by decide +kernel) (pa_cons (pv 1) pa_nil)) pe_int))
  (pss_cons (ps_set (i := 4) sc_law.nd rfl (by first | exact Or.inl rfl | exact Or.inr rfl) (pe_lst (pa_cons pe_int (pa_cons pe_int (pa_cons pe_int (pa_cons pe_int (pa_cons pe_int (pa_cons pe_int (pa_cons pe_int (pa_cons pe_int (pa_cons pe_int (pa_cons pe_int (pa_cons pe_int (pa_cons pe_int (pa_cons pe_int (pa_cons pe_int (pa_cons pe_int (pa_cons pe_int (pa_cons pe_int (pa_cons pe_int (pa_cons pe_int (pa_cons pe_int (pa_cons pe_int pa_nil)))))))))))))))))))))))
  (pss_cons (ps_set (i := 5) sc_law.nd rfl (by first | exact Or.inl rfl | exact Or.inr rfl) (pe_ix ix_list (pv 4) (pv 3) (fun _ _ => rfl)))
  (Evl.pss_cut (ps_if (pt_cmpR op_lt (pv 3) pe_int (nomark _))
  (pss_cons (ps_set (i := 6) sc_law.nd rfl (by first | exact Or.inl rfl | exact Or.inr rfl) (pe_call (ok__law_counts T) (hr.mono (by decide)) (by rfl) T.g__law_counts T.F__law_counts.kp T.b__law_counts .nil pass0 (pa_cons (pv 3) (pa_cons (pv 5) pa_nil))))
  (pss_one (ps_set (i := 7) sc_law.nd rfl (by first | exact Or.inl rfl | exact Or.inr rfl) (pe_call (ok__law_counts T) (hr.mono (by decide)) (by rfl) T.g__law_counts T.F__law_counts.kp T.b__law_counts .nil pass0 (pa_cons (pv 3) (pa_cons (pe_op op_add (pv 5) pe_int) pa_nil))))))
  (pss_cons (ps_set (i := 6) sc_law.nd rfl (by first | exact Or.inl rfl | exact Or.inr rfl) (pe_call (ok__law_bodies T) (hr.mono (by decide)) (by rfl) T.g__law_bodies T.F__law_bodies.kp T.b__law_bodies .nil pass0 (pa_cons (pe_op op_sub (pv 3) pe_int) (pa_cons (pv 5) pa_nil))))
  (pss_one (ps_set (i := 7) sc_law.nd rfl (by first | exact Or.inl rfl | exact Or.inr rfl) (pe_call (ok__law_bodies T) (hr.mono (by decide)) (by rfl) T.g__law_bodies T.F__law_bodies.kp T.b__law_bodies .nil pass0 (pa_cons (pe_op op_sub (pv 3) pe_int) (pa_cons (pe_op op_add (pv 5) pe_int) pa_nil)))))))
  (pss_cons (ps_set (i := 8) sc_law.nd rfl (by first | exact Or.inl rfl | exact Or.inr rfl) pe_str)
  (Evl.pss_cut (ps_if (pt_cmpR op_eq (pv 3) pe_int (nomark _))
  (pss_one (ps_set (i := 8) sc_law.nd rfl (by first | exact Or.inl rfl | exact Or.inr rfl) pe_str))
  pss_nil)
  (pss_cons (ps_set (i := 9) sc_law.nd rfl (by first | exact Or.inl rfl | exact Or.inr rfl) (pe_callB (cr_reprD gA (room70 hr)) (by rfl) T.m_repr (by decide +kernel) (pa_cons (pe_lst (pa_cons (pv 6) (pa_cons (pv 7) pa_nil))) pa_nil)))
  (pss_cons (ps_if (pw_or (pt_cmpR (op_neD hr.units) (pe_call (ok__law_rule T) (hr.mono (by decide)) (by rfl) T.g__law_rule T.F__law_rule.kp T.b__law_rule .nil pass0 (pa_cons (pv 6) pa_nil)) (pe_tup (pa_cons pe_str (pa_cons pe_int pa_nil))) (nomark _)) (pw_or1 (pt_cmpR (op_neD hr.units) (pe_call (ok__law_rule T) (hr.mono (by decide)) (by rfl) T.g__law_rule T.F__law_rule.kp T.b__law_rule .nil pass0 (pa_cons (pv 7) pa_nil)) (pe_tup (pa_cons (pv 8) (pa_cons pe_int pa_nil))) (nomark _)))).pt
  (pss_one (ps_ret pe_bl))
  pss_nil)
  (pss_one (ps_ret (pe_and (pe_cmpR (op_eqD hr.units) (pe_call (ok__law_rule T) (hr.mono (by decide)) (by rfl) T.g__law_rule T.F__law_rule.kp T.b__law_rule .nil pass0 (pa_cons (pv 6) pa_nil)) (pe_tup (pa_cons pe_str (pa_cons pe_int pa_nil))) (nomark _)) (pe_one (pe_cmpR op_eq (pe_callB (cr_reprD gA (room70 hr)) (by rfl) T.m_repr (by decide +kernel) (pa_cons (pe_lst (pa_cons (pv 6) (pa_cons (pv 7) pa_nil))) pa_nil)) (pv 9) (nomark _)))))))))))))))), ?_⟩
    rw [show ∀ a0 : V, L2.start ["script", "cell", "k", "kind", "limits", "limit", "good", "bad", "rule", "before"] [a0] = [some a0, none, none, none, none, none, none, none, none, none] from fun _ => rfl]
    walk_at "my rn"
    refine ⟨by rw [List.length_map]; omega, by rw [List.length_map]; omega, ?_⟩
    refine for_it walk_range (fun k σ H' => ∃ (c : Int) (y3 : Option V), σ = [some (.ref l), some (.int c), y3, none, none, none, none, none, none, none] ∧ H' = H ∧ 0 ≤ c) ⟨0, _, rfl, rfl, Int.le_refl _⟩ (fun _ _ _ _ _ => trivial) ?_ ?_
    · rintro k x σ Ho H4 hk ⟨c, y3, rfl, rfl, c0⟩ y
      obtain ⟨rfl, rfl⟩ := Rd.zr y
      rw [List.length_map] at hk
      have hk : k < ns.length := by omega
      walk_at "my rn"
      refine Rd.ixLq hS (Rd.at_int rfl (List.getElem?_eq_getElem hk)) ?_
      walk_at "my rn"
      have an := abs_nn ns[k]
      refine ⟨_, _, rfl, rfl, .inr ⟨by omega, by omega⟩, ?_⟩
      walk_at "my rn"
      exact ⟨_, _, rfl, rfl, Int.add_nonneg c0 (Int.mul_nonneg an (by omega))⟩
    · rintro σ H4 ⟨c, y3, rfl, e4, c0⟩
      rw [e4]
      clear e4
      clear H4
      walk_at "my rn"
      obtain ⟨k, ek⟩ : ∃ k : Nat, c % 21 = (k : Int) := ⟨(c % 21).toNat, by have := Int.emod_nonneg c (show (21 : Int) ≠ 0 by decide); omega⟩
      have k21 : k < 21 := by have := Int.emod_lt_of_pos c (show (0 : Int) < 21 by decide); omega
      rw [ek]
      intro LL H1 n1 s1 h1
      have h1 : H1 LL = some (.lst (LIMI.map V.int)) := h1
      have elim : LIMI[k]? = some ((LIM.getD k 0 : Nat) : Int) := by
        have : ∀ k, k < 21 → LIMI[k]? = some ((LIM.getD k 0 : Nat) : Int) := by decide +kernel
        exact this k k21
      walk_at "my rn"
      refine Rd.ixLq (SqL.of h1) (Rd.at_int rfl elim) ?_
      obtain ⟨n, en⟩ : ∃ n, n = LIM.getD k 0 := ⟨_, rfl⟩
      rw [← en]
      have good : mCheck (pgK k n) = none := by rw [en]; exact lim_good k k21
      have bad : mCheck (pgK k (n + 1)) = some (ruleK k) := by rw [en]; exact lim_bad k k21
      have ok := lim_ok k k21
      rw [← en] at ok
      have e1 : (n : Int) + 1 = ((n + 1 : Nat) : Int) := by omega
      refine ⟨fun σ' H' => ∃ (v0 v1 : V), σ' = [some (.ref l), some (.int c), y3, some (.int (k : Int)), some (.ref LL), some (.int (n : Int)), some v0, some v1, none, none] ∧ Same H H' ∧ Dp K H' v0 (pgK k n).d ∧ Dp K H' v1 (pgK k (n + 1)).d, ?_, ?_⟩
      · rw [show ([some (.ref l), some (.int c), y3, some (.int (k : Int)), some (.ref LL), none, none, none, none, none] : L2.St).set 5 (some (.int (n : Int))) = [some (.ref l), some (.int c), y3, some (.int (k : Int)), some (.ref LL), some (.int (n : Int)), none, none, none, none] from rfl]
        walk_at "my rn"
        by_cases hk : k < 10
        · rw [decide_eq_true (show (k : Int) < 10 by omega)]
          refine Rd.ifT ?_
          have lc := lim_c k hk
          rw [← en] at lc
          walk_at "my rn"
          refine ⟨k, n, rfl, hk, by omega, fun v0 H2 s2 d0 => ?_⟩
          walk_at "my rn"
          refine ⟨k, n + 1, by rw [e1]; rfl, hk, by omega, fun v1 H3 s3 d1 => ?_⟩
          have ep : ∀ n, pgK k n = pgC k n := fun n => if_pos hk
          walk_at "my rn"
          exact ⟨v0, v1, rfl, s1.trans (s2.trans s3), by rw [ep]; exact dp_same s3 d0, by rw [ep]; exact d1⟩
        · rw [decide_eq_false (show ¬ (k : Int) < 10 by omega)]
          refine Rd.ifF ?_
          have lb := lim_b k k21 hk
          rw [← en] at lb
          obtain ⟨b1, b2, b3, b4⟩ := lb
          have e10 : (k : Int) - 10 = ((k - 10 : Nat) : Int) := by omega
          walk_at "my rn"
          refine ⟨k - 10, n, by rw [← e10]; rfl, by omega, b1, b2, by omega, fun h => by have := b4 h; omega, fun v0 H2 s2 d0 => ?_⟩
          walk_at "my rn"
          refine ⟨k - 10, n + 1, by rw [e1, ← e10]; rfl, by omega, by omega, fun h => by have := b2 h; omega, b3, b4, fun v1 H3 s3 d1 => ?_⟩
          have ep : ∀ n, pgK k n = pgB (k - 10) n := fun n => if_neg hk
          walk_at "my rn"
          exact ⟨v0, v1, rfl, s1.trans (s2.trans s3), by rw [ep]; exact dp_same s3 d0, by rw [ep]; exact d1⟩
      rintro σ' H2 ⟨v0, v1, rfl, s2, d0, d1⟩
      walk_at "my rn"
      refine ⟨fun σ' H' => σ' = [some (.ref l), some (.int c), y3, some (.int (k : Int)), some (.ref LL), some (.int (n : Int)), some v0, some v1, some (.str (ruleK k)), none] ∧ H' = H2, ?_, ?_⟩
      · walk_at "my rn"
        refine Rd.ifD (fun e => ?_) fun e => ?_
        · obtain rfl : k = 20 := by have := V.int.inj e; omega
          walk_at "my rn"
          exact ⟨rfl, rfl⟩
        · have : k ≠ 20 := fun h => e (by rw [h]; rfl)
          have er : ruleK k = "size" := if_neg this
          rw [er]
          exact ⟨rfl, rfl⟩
      rintro σ' H3 ⟨rfl, e3⟩
      rw [e3]
      clear e3
      clear H3
      have lk := lim_lk k k21
      rw [← en] at lk
      have rp := two_rp lk.1 lk.2
      have ru := rule_or k
      walk_at "my rn"
      intro TW H9 n9 s9 h9
      have dw0 := dp_same s9 d0
      have dw1 := dp_same s9 d1
      have dw : Dp K H9 (.ref TW) (.list [(pgK k n).d, (pgK k (n + 1)).d]) := .lst (SqL.of h9) (.cons dw0 (.cons dw1 .nil))
      refine ⟨TW, _, rfl, dw, rp.sh, rp.nd, Nat.le_trans rp.dp (by decide), Nat.le_trans rp.ln (by decide), ?_⟩
      obtain ⟨tx, etx⟩ : ∃ tx, tx = (PyData.list [(pgK k n).d, (pgK k (n + 1)).d]).shown := ⟨_, rfl⟩
      rw [← etx]
      walk_at "my rn"
      refine ⟨v0, pgK k n, rfl, dw0, ok.1, fun t1 HA sA nA hA => ?_⟩
      rw [good] at hA
      walk_at "my rn"
      intro t2 HB nB sB hB
      refine Rd.neD (outD_at (r := none) (sB _ _ hA)) (outD_at (r := none) hB) (out_sh (.inl rfl)) (out_sh (.inl rfl)) ?_
      rw [out_eq]
      have s9B := sA.trans sB
      walk_at "my rn"
      refine ⟨v1, pgK k (n + 1), rfl, dp_same s9B dw1, ok.2, fun t3 HC sC nC hC => ?_⟩
      rw [bad] at hC
      have osh : SeqAt.shaped (OutD (some (ruleK k))) = true := out_sh (by rcases ru with h | h <;> rw [h] <;> simp)
      walk_at "my rn"
      intro t4 HD nD sD hD
      refine Rd.neD (outD_at (r := some (ruleK k)) (sD _ _ hC)) (outD_at (r := some (ruleK k)) hD) osh osh ?_
      rw [out_eq]
      have s9D := s9B.trans (sC.trans sD)
      walk_at "my rn"
      refine ⟨v0, pgK k n, rfl, dp_same s9D dw0, ok.1, fun t5 HE sE nE hE => ?_⟩
      rw [good] at hE
      walk_at "my rn"
      intro t6 HF nF' sF hF'
      refine Rd.eqD (outD_at (r := none) (sF _ _ hE)) (outD_at (r := none) hF') (out_sh (.inl rfl)) (out_sh (.inl rfl)) ?_
      rw [out_eq]
      walk_at "my rn"
      have s9F := s9D.trans (sE.trans sF)
      intro TX HG nG sG hG
      have s9G := s9F.trans sG
      have dw2 : Dp K HG (.ref TX) (.list [(pgK k n).d, (pgK k (n + 1)).d]) := .lst (SqL.of hG) (.cons (dp_same s9G dw0) (.cons (dp_same s9G dw1) .nil))
      refine ⟨TX, _, rfl, dw2, rp.sh, rp.nd, Nat.le_trans rp.dp (by decide), Nat.le_trans rp.ln (by decide), ?_⟩
      rw [← etx]
      walk_at "my rn"
      rw [decide_eq_true rfl]
      exact q _
end

def top_mk {P : Program} {w : World} {K : PySem.W.Frag} {h : Heap} {mg : Str → Option Value} (X : K.In h) (G : h.Ns mainGlobals mg)
    {a_is_reserved : Addr} {od_is_reserved an_is_reserved : Option Addr} {sl_is_reserved : Array (Option Value)} {oc_is_reserved kV_is_reserved dc_is_reserved pm_is_reserved cd_is_reserved ct_is_reserved : Value}
    {a_depth : Addr} {od_depth an_depth : Option Addr} {sl_depth : Array (Option Value)} {oc_depth kV_depth dc_depth pm_depth cd_depth ct_depth : Value}
    {a_parts : Addr} {od_parts an_parts : Option Addr} {sl_parts : Array (Option Value)} {oc_parts kV_parts dc_parts pm_parts cd_parts ct_parts : Value}
    {a__operands : Addr} {od__operands an__operands : Option Addr} {sl__operands : Array (Option Value)} {oc__operands kV__operands dc__operands pm__operands cd__operands ct__operands : Value}
    {a_find : Addr} {od_find an_find : Option Addr} {sl_find : Array (Option Value)} {oc_find kV_find dc_find pm_find cd_find ct_find : Value}
    {a_check : Addr} {od_check an_check : Option Addr} {sl_check : Array (Option Value)} {oc_check kV_check dc_check pm_check cd_check ct_check : Value}
    {a__demand : Addr} {od__demand an__demand : Option Addr} {sl__demand : Array (Option Value)} {oc__demand kV__demand dc__demand pm__demand cd__demand ct__demand : Value}
    {a__check_name : Addr} {od__check_name an__check_name : Option Addr} {sl__check_name : Array (Option Value)} {oc__check_name kV__check_name dc__check_name pm__check_name cd__check_name ct__check_name : Value}
    {a__is_name : Addr} {od__is_name an__is_name : Option Addr} {sl__is_name : Array (Option Value)} {oc__is_name kV__is_name dc__is_name pm__is_name cd__is_name ct__is_name : Value}
    {a__check_object : Addr} {od__check_object an__check_object : Option Addr} {sl__check_object : Array (Option Value)} {oc__check_object kV__check_object dc__check_object pm__check_object cd__check_object ct__check_object : Value}
    {a__check_operation : Addr} {od__check_operation an__check_operation : Option Addr} {sl__check_operation : Array (Option Value)} {oc__check_operation kV__check_operation dc__check_operation pm__check_operation cd__check_operation ct__check_operation : Value}
    {a__check_task : Addr} {od__check_task an__check_task : Option Addr} {sl__check_task : Array (Option Value)} {oc__check_task kV__check_task dc__check_task pm__check_task cd__check_task ct__check_task : Value}
    {a__check_interrupt : Addr} {od__check_interrupt an__check_interrupt : Option Addr} {sl__check_interrupt : Array (Option Value)} {oc__check_interrupt kV__check_interrupt dc__check_interrupt pm__check_interrupt cd__check_interrupt ct__check_interrupt : Value}
    {a__are_times : Addr} {od__are_times an__are_times : Option Addr} {sl__are_times : Array (Option Value)} {oc__are_times kV__are_times dc__are_times pm__are_times cd__are_times ct__are_times : Value}
    {a__with_name : Addr} {od__with_name an__with_name : Option Addr} {sl__with_name : Array (Option Value)} {oc__with_name kV__with_name dc__with_name pm__with_name cd__with_name ct__with_name : Value}
    {a__with_cells : Addr} {od__with_cells an__with_cells : Option Addr} {sl__with_cells : Array (Option Value)} {oc__with_cells kV__with_cells dc__with_cells pm__with_cells cd__with_cells ct__with_cells : Value}
    {a__check_body : Addr} {od__check_body an__check_body : Option Addr} {sl__check_body : Array (Option Value)} {oc__check_body kV__check_body dc__check_body pm__check_body cd__check_body ct__check_body : Value}
    {a__fits : Addr} {od__fits an__fits : Option Addr} {sl__fits : Array (Option Value)} {oc__fits kV__fits dc__fits pm__fits cd__fits ct__fits : Value}
    {a__check_statements : Addr} {od__check_statements an__check_statements : Option Addr} {sl__check_statements : Array (Option Value)} {oc__check_statements kV__check_statements dc__check_statements pm__check_statements cd__check_statements ct__check_statements : Value}
    {a__expressions : Addr} {od__expressions an__expressions : Option Addr} {sl__expressions : Array (Option Value)} {oc__expressions kV__expressions dc__expressions pm__expressions cd__expressions ct__expressions : Value}
    {a__index : Addr} {od__index an__index : Option Addr} {sl__index : Array (Option Value)} {oc__index kV__index dc__index pm__index cd__index ct__index : Value}
    {a__check_expression : Addr} {od__check_expression an__check_expression : Option Addr} {sl__check_expression : Array (Option Value)} {oc__check_expression kV__check_expression dc__check_expression pm__check_expression cd__check_expression ct__check_expression : Value}
    {a__check_statement : Addr} {od__check_statement an__check_statement : Option Addr} {sl__check_statement : Array (Option Value)} {oc__check_statement kV__check_statement dc__check_statement pm__check_statement cd__check_statement ct__check_statement : Value}
    {a__check_place : Addr} {od__check_place an__check_place : Option Addr} {sl__check_place : Array (Option Value)} {oc__check_place kV__check_place dc__check_place pm__check_place cd__check_place ct__check_place : Value}
    {a__check_port : Addr} {od__check_port an__check_port : Option Addr} {sl__check_port : Array (Option Value)} {oc__check_port kV__check_port dc__check_port pm__check_port cd__check_port ct__check_port : Value}
    {a__check_call : Addr} {od__check_call an__check_call : Option Addr} {sl__check_call : Array (Option Value)} {oc__check_call kV__check_call dc__check_call pm__check_call cd__check_call ct__check_call : Value}
    {a__law_rule : Addr} {od__law_rule an__law_rule : Option Addr} {sl__law_rule : Array (Option Value)} {oc__law_rule kV__law_rule dc__law_rule pm__law_rule cd__law_rule ct__law_rule : Value}
    {a__law_rows : Addr} {od__law_rows an__law_rows : Option Addr} {sl__law_rows : Array (Option Value)} {oc__law_rows kV__law_rows dc__law_rows pm__law_rows cd__law_rows ct__law_rows : Value}
    {a__law_task : Addr} {od__law_task an__law_task : Option Addr} {sl__law_task : Array (Option Value)} {oc__law_task kV__law_task dc__law_task pm__law_task cd__law_task ct__law_task : Value}
    {a__law_whole : Addr} {od__law_whole an__law_whole : Option Addr} {sl__law_whole : Array (Option Value)} {oc__law_whole kV__law_whole dc__law_whole pm__law_whole cd__law_whole ct__law_whole : Value}
    {a__law_operation : Addr} {od__law_operation an__law_operation : Option Addr} {sl__law_operation : Array (Option Value)} {oc__law_operation kV__law_operation dc__law_operation pm__law_operation cd__law_operation ct__law_operation : Value}
    {a__law_counts : Addr} {od__law_counts an__law_counts : Option Addr} {sl__law_counts : Array (Option Value)} {oc__law_counts kV__law_counts dc__law_counts pm__law_counts cd__law_counts ct__law_counts : Value}
    {a__law_deep : Addr} {od__law_deep an__law_deep : Option Addr} {sl__law_deep : Array (Option Value)} {oc__law_deep kV__law_deep dc__law_deep pm__law_deep cd__law_deep ct__law_deep : Value}
    {a__law_loops : Addr} {od__law_loops an__law_loops : Option Addr} {sl__law_loops : Array (Option Value)} {oc__law_loops kV__law_loops dc__law_loops pm__law_loops cd__law_loops ct__law_loops : Value}
    {a__law_unary : Addr} {od__law_unary an__law_unary : Option Addr} {sl__law_unary : Array (Option Value)} {oc__law_unary kV__law_unary dc__law_unary pm__law_unary cd__law_unary ct__law_unary : Value}
    {a__law_wide : Addr} {od__law_wide an__law_wide : Option Addr} {sl__law_wide : Array (Option Value)} {oc__law_wide kV__law_wide dc__law_wide pm__law_wide cd__law_wide ct__law_wide : Value}
    {a__law_bodies : Addr} {od__law_bodies an__law_bodies : Option Addr} {sl__law_bodies : Array (Option Value)} {oc__law_bodies kV__law_bodies dc__law_bodies pm__law_bodies cd__law_bodies ct__law_bodies : Value}
    {a_law : Addr} {od_law an_law : Option Addr} {sl_law : Array (Option Value)} {oc_law kV_law dc_law pm_law cd_law ct_law : Value}
    {C_RuleError : Addr}
    {f_RuleError cda_RuleError cc_RuleError N_RuleError : Addr} {nm_RuleError q_RuleError file_RuleError : Str} {bs_RuleError bm_RuleError sub_RuleError : List Value} {sn_RuleError : List Str} {ab_RuleError : Bool} {col_RuleError : Option Bool} {dd_RuleError od_RuleError an_RuleError cdd_RuleError cld_RuleError : Option Addr} {m0_RuleError m1_RuleError m2_RuleError m3_RuleError m5_RuleError : Option Value} {oc_RuleError dc_RuleError pm_RuleError ct_RuleError ccl_RuleError cl_RuleError : Value} {osl_RuleError ccs_RuleError csl_RuleError : Array (Option Value)} {vs_RuleError : Array Value} {tq_RuleError tf_RuleError : Tok}
    {p_RESERVED : Addr} {n_RESERVED : Nat} {us_RESERVED : Array Value} {sl_RESERVED : Array (Option Value)}
    {t_MOST_INTERRUPTS : Tok}
    {t_MOST_TASKS : Tok}
    {t_MOST_OBJECTS : Tok}
    {t_MOST_PORTS : Tok}
    {t_DIGITS : Tok}
    {t_LETTERS : Tok}
    {t_LONGEST_NAME : Tok}
    {t_MOST_OPERATIONS : Tok}
    {t_MOST_DECLARED : Tok}
    {t_DEEPEST : Tok}
    {t_SINGLE : Tok}
    {t_MOST_PARAMS : Tok}
    {t_NO_OBJECT : Tok}
    {t_LONGEST_TIME : Tok}
    {t_ARRAY : Tok}
    {t_MOST_CELLS : Tok}
    {t_MOST_STATEMENTS : Tok}
    {t_DEEPEST_LOOP : Tok}
    {t_DEEPEST_LIST : Tok}
    {t_DEEPEST_ARGUMENT : Tok}
    {t_VARIABLE : Tok}
    {t_MOST_PARTS : Tok}
    {t_MOST_ROUNDS : Tok}
    (n_is_reserved : PySem.W.nsIn K mainGlobals "is_reserved" = some (some (.ref a_is_reserved)))
    (n_depth : PySem.W.nsIn K mainGlobals "depth" = some (some (.ref a_depth)))
    (n_parts : PySem.W.nsIn K mainGlobals "parts" = some (some (.ref a_parts)))
    (n__operands : PySem.W.nsIn K mainGlobals "_operands" = some (some (.ref a__operands)))
    (n_find : PySem.W.nsIn K mainGlobals "find" = some (some (.ref a_find)))
    (n_check : PySem.W.nsIn K mainGlobals "check" = some (some (.ref a_check)))
    (n__demand : PySem.W.nsIn K mainGlobals "_demand" = some (some (.ref a__demand)))
    (n__check_name : PySem.W.nsIn K mainGlobals "_check_name" = some (some (.ref a__check_name)))
    (n__is_name : PySem.W.nsIn K mainGlobals "_is_name" = some (some (.ref a__is_name)))
    (n__check_object : PySem.W.nsIn K mainGlobals "_check_object" = some (some (.ref a__check_object)))
    (n__check_operation : PySem.W.nsIn K mainGlobals "_check_operation" = some (some (.ref a__check_operation)))
    (n__check_task : PySem.W.nsIn K mainGlobals "_check_task" = some (some (.ref a__check_task)))
    (n__check_interrupt : PySem.W.nsIn K mainGlobals "_check_interrupt" = some (some (.ref a__check_interrupt)))
    (n__are_times : PySem.W.nsIn K mainGlobals "_are_times" = some (some (.ref a__are_times)))
    (n__with_name : PySem.W.nsIn K mainGlobals "_with_name" = some (some (.ref a__with_name)))
    (n__with_cells : PySem.W.nsIn K mainGlobals "_with_cells" = some (some (.ref a__with_cells)))
    (n__check_body : PySem.W.nsIn K mainGlobals "_check_body" = some (some (.ref a__check_body)))
    (n__fits : PySem.W.nsIn K mainGlobals "_fits" = some (some (.ref a__fits)))
    (n__check_statements : PySem.W.nsIn K mainGlobals "_check_statements" = some (some (.ref a__check_statements)))
    (n__expressions : PySem.W.nsIn K mainGlobals "_expressions" = some (some (.ref a__expressions)))
    (n__index : PySem.W.nsIn K mainGlobals "_index" = some (some (.ref a__index)))
    (n__check_expression : PySem.W.nsIn K mainGlobals "_check_expression" = some (some (.ref a__check_expression)))
    (n__check_statement : PySem.W.nsIn K mainGlobals "_check_statement" = some (some (.ref a__check_statement)))
    (n__check_place : PySem.W.nsIn K mainGlobals "_check_place" = some (some (.ref a__check_place)))
    (n__check_port : PySem.W.nsIn K mainGlobals "_check_port" = some (some (.ref a__check_port)))
    (n__check_call : PySem.W.nsIn K mainGlobals "_check_call" = some (some (.ref a__check_call)))
    (n__law_rule : PySem.W.nsIn K mainGlobals "_law_rule" = some (some (.ref a__law_rule)))
    (n__law_rows : PySem.W.nsIn K mainGlobals "_law_rows" = some (some (.ref a__law_rows)))
    (n__law_task : PySem.W.nsIn K mainGlobals "_law_task" = some (some (.ref a__law_task)))
    (n__law_whole : PySem.W.nsIn K mainGlobals "_law_whole" = some (some (.ref a__law_whole)))
    (n__law_operation : PySem.W.nsIn K mainGlobals "_law_operation" = some (some (.ref a__law_operation)))
    (n__law_counts : PySem.W.nsIn K mainGlobals "_law_counts" = some (some (.ref a__law_counts)))
    (n__law_deep : PySem.W.nsIn K mainGlobals "_law_deep" = some (some (.ref a__law_deep)))
    (n__law_loops : PySem.W.nsIn K mainGlobals "_law_loops" = some (some (.ref a__law_loops)))
    (n__law_unary : PySem.W.nsIn K mainGlobals "_law_unary" = some (some (.ref a__law_unary)))
    (n__law_wide : PySem.W.nsIn K mainGlobals "_law_wide" = some (some (.ref a__law_wide)))
    (n__law_bodies : PySem.W.nsIn K mainGlobals "_law_bodies" = some (some (.ref a__law_bodies)))
    (n_law : PySem.W.nsIn K mainGlobals "law" = some (some (.ref a_law)))
    (nc_RuleError : PySem.W.nsIn K mainGlobals "RuleError" = some (some (.ref C_RuleError)))
    (l_is_reserved : K.lookup a_is_reserved = some ⟨oc_is_reserved, od_is_reserved, .func (PySem.W.fnOf "is_reserved" "is_reserved" (defArgs s_is_reserved) (defBody s_is_reserved) (defScope s_is_reserved) .none kV_is_reserved dc_is_reserved pm_is_reserved an_is_reserved cd_is_reserved ct_is_reserved), sl_is_reserved⟩)
    (c_is_reserved : PySem.W.codeIn K cd_is_reserved "is_reserved" = true)
    (k_is_reserved : PySem.W.keepIn K (.ref a_is_reserved) = true)
    (l_depth : K.lookup a_depth = some ⟨oc_depth, od_depth, .func (PySem.W.fnOf "depth" "depth" (defArgs s_depth) (defBody s_depth) (defScope s_depth) .none kV_depth dc_depth pm_depth an_depth cd_depth ct_depth), sl_depth⟩)
    (c_depth : PySem.W.codeIn K cd_depth "depth" = true)
    (k_depth : PySem.W.keepIn K (.ref a_depth) = true)
    (l_parts : K.lookup a_parts = some ⟨oc_parts, od_parts, .func (PySem.W.fnOf "parts" "parts" (defArgs s_parts) (defBody s_parts) (defScope s_parts) .none kV_parts dc_parts pm_parts an_parts cd_parts ct_parts), sl_parts⟩)
    (c_parts : PySem.W.codeIn K cd_parts "parts" = true)
    (k_parts : PySem.W.keepIn K (.ref a_parts) = true)
    (l__operands : K.lookup a__operands = some ⟨oc__operands, od__operands, .func (PySem.W.fnOf "_operands" "_operands" (defArgs s__operands) (defBody s__operands) (defScope s__operands) .none kV__operands dc__operands pm__operands an__operands cd__operands ct__operands), sl__operands⟩)
    (c__operands : PySem.W.codeIn K cd__operands "_operands" = true)
    (k__operands : PySem.W.keepIn K (.ref a__operands) = true)
    (l_find : K.lookup a_find = some ⟨oc_find, od_find, .func (PySem.W.fnOf "find" "find" (defArgs s_find) (defBody s_find) (defScope s_find) .none kV_find dc_find pm_find an_find cd_find ct_find), sl_find⟩)
    (c_find : PySem.W.codeIn K cd_find "find" = true)
    (k_find : PySem.W.keepIn K (.ref a_find) = true)
    (l_check : K.lookup a_check = some ⟨oc_check, od_check, .func (PySem.W.fnOf "check" "check" (defArgs s_check) (defBody s_check) (defScope s_check) .none kV_check dc_check pm_check an_check cd_check ct_check), sl_check⟩)
    (c_check : PySem.W.codeIn K cd_check "check" = true)
    (k_check : PySem.W.keepIn K (.ref a_check) = true)
    (l__demand : K.lookup a__demand = some ⟨oc__demand, od__demand, .func (PySem.W.fnOf "_demand" "_demand" (defArgs s__demand) (defBody s__demand) (defScope s__demand) .none kV__demand dc__demand pm__demand an__demand cd__demand ct__demand), sl__demand⟩)
    (c__demand : PySem.W.codeIn K cd__demand "_demand" = true)
    (k__demand : PySem.W.keepIn K (.ref a__demand) = true)
    (l__check_name : K.lookup a__check_name = some ⟨oc__check_name, od__check_name, .func (PySem.W.fnOf "_check_name" "_check_name" (defArgs s__check_name) (defBody s__check_name) (defScope s__check_name) .none kV__check_name dc__check_name pm__check_name an__check_name cd__check_name ct__check_name), sl__check_name⟩)
    (c__check_name : PySem.W.codeIn K cd__check_name "_check_name" = true)
    (k__check_name : PySem.W.keepIn K (.ref a__check_name) = true)
    (l__is_name : K.lookup a__is_name = some ⟨oc__is_name, od__is_name, .func (PySem.W.fnOf "_is_name" "_is_name" (defArgs s__is_name) (defBody s__is_name) (defScope s__is_name) .none kV__is_name dc__is_name pm__is_name an__is_name cd__is_name ct__is_name), sl__is_name⟩)
    (c__is_name : PySem.W.codeIn K cd__is_name "_is_name" = true)
    (k__is_name : PySem.W.keepIn K (.ref a__is_name) = true)
    (l__check_object : K.lookup a__check_object = some ⟨oc__check_object, od__check_object, .func (PySem.W.fnOf "_check_object" "_check_object" (defArgs s__check_object) (defBody s__check_object) (defScope s__check_object) .none kV__check_object dc__check_object pm__check_object an__check_object cd__check_object ct__check_object), sl__check_object⟩)
    (c__check_object : PySem.W.codeIn K cd__check_object "_check_object" = true)
    (k__check_object : PySem.W.keepIn K (.ref a__check_object) = true)
    (l__check_operation : K.lookup a__check_operation = some ⟨oc__check_operation, od__check_operation, .func (PySem.W.fnOf "_check_operation" "_check_operation" (defArgs s__check_operation) (defBody s__check_operation) (defScope s__check_operation) .none kV__check_operation dc__check_operation pm__check_operation an__check_operation cd__check_operation ct__check_operation), sl__check_operation⟩)
    (c__check_operation : PySem.W.codeIn K cd__check_operation "_check_operation" = true)
    (k__check_operation : PySem.W.keepIn K (.ref a__check_operation) = true)
    (l__check_task : K.lookup a__check_task = some ⟨oc__check_task, od__check_task, .func (PySem.W.fnOf "_check_task" "_check_task" (defArgs s__check_task) (defBody s__check_task) (defScope s__check_task) .none kV__check_task dc__check_task pm__check_task an__check_task cd__check_task ct__check_task), sl__check_task⟩)
    (c__check_task : PySem.W.codeIn K cd__check_task "_check_task" = true)
    (k__check_task : PySem.W.keepIn K (.ref a__check_task) = true)
    (l__check_interrupt : K.lookup a__check_interrupt = some ⟨oc__check_interrupt, od__check_interrupt, .func (PySem.W.fnOf "_check_interrupt" "_check_interrupt" (defArgs s__check_interrupt) (defBody s__check_interrupt) (defScope s__check_interrupt) .none kV__check_interrupt dc__check_interrupt pm__check_interrupt an__check_interrupt cd__check_interrupt ct__check_interrupt), sl__check_interrupt⟩)
    (c__check_interrupt : PySem.W.codeIn K cd__check_interrupt "_check_interrupt" = true)
    (k__check_interrupt : PySem.W.keepIn K (.ref a__check_interrupt) = true)
    (l__are_times : K.lookup a__are_times = some ⟨oc__are_times, od__are_times, .func (PySem.W.fnOf "_are_times" "_are_times" (defArgs s__are_times) (defBody s__are_times) (defScope s__are_times) .none kV__are_times dc__are_times pm__are_times an__are_times cd__are_times ct__are_times), sl__are_times⟩)
    (c__are_times : PySem.W.codeIn K cd__are_times "_are_times" = true)
    (k__are_times : PySem.W.keepIn K (.ref a__are_times) = true)
    (l__with_name : K.lookup a__with_name = some ⟨oc__with_name, od__with_name, .func (PySem.W.fnOf "_with_name" "_with_name" (defArgs s__with_name) (defBody s__with_name) (defScope s__with_name) .none kV__with_name dc__with_name pm__with_name an__with_name cd__with_name ct__with_name), sl__with_name⟩)
    (c__with_name : PySem.W.codeIn K cd__with_name "_with_name" = true)
    (k__with_name : PySem.W.keepIn K (.ref a__with_name) = true)
    (l__with_cells : K.lookup a__with_cells = some ⟨oc__with_cells, od__with_cells, .func (PySem.W.fnOf "_with_cells" "_with_cells" (defArgs s__with_cells) (defBody s__with_cells) (defScope s__with_cells) .none kV__with_cells dc__with_cells pm__with_cells an__with_cells cd__with_cells ct__with_cells), sl__with_cells⟩)
    (c__with_cells : PySem.W.codeIn K cd__with_cells "_with_cells" = true)
    (k__with_cells : PySem.W.keepIn K (.ref a__with_cells) = true)
    (l__check_body : K.lookup a__check_body = some ⟨oc__check_body, od__check_body, .func (PySem.W.fnOf "_check_body" "_check_body" (defArgs s__check_body) (defBody s__check_body) (defScope s__check_body) .none kV__check_body dc__check_body pm__check_body an__check_body cd__check_body ct__check_body), sl__check_body⟩)
    (c__check_body : PySem.W.codeIn K cd__check_body "_check_body" = true)
    (k__check_body : PySem.W.keepIn K (.ref a__check_body) = true)
    (l__fits : K.lookup a__fits = some ⟨oc__fits, od__fits, .func (PySem.W.fnOf "_fits" "_fits" (defArgs s__fits) (defBody s__fits) (defScope s__fits) .none kV__fits dc__fits pm__fits an__fits cd__fits ct__fits), sl__fits⟩)
    (c__fits : PySem.W.codeIn K cd__fits "_fits" = true)
    (k__fits : PySem.W.keepIn K (.ref a__fits) = true)
    (l__check_statements : K.lookup a__check_statements = some ⟨oc__check_statements, od__check_statements, .func (PySem.W.fnOf "_check_statements" "_check_statements" (defArgs s__check_statements) (defBody s__check_statements) (defScope s__check_statements) .none kV__check_statements dc__check_statements pm__check_statements an__check_statements cd__check_statements ct__check_statements), sl__check_statements⟩)
    (c__check_statements : PySem.W.codeIn K cd__check_statements "_check_statements" = true)
    (k__check_statements : PySem.W.keepIn K (.ref a__check_statements) = true)
    (l__expressions : K.lookup a__expressions = some ⟨oc__expressions, od__expressions, .func (PySem.W.fnOf "_expressions" "_expressions" (defArgs s__expressions) (defBody s__expressions) (defScope s__expressions) .none kV__expressions dc__expressions pm__expressions an__expressions cd__expressions ct__expressions), sl__expressions⟩)
    (c__expressions : PySem.W.codeIn K cd__expressions "_expressions" = true)
    (k__expressions : PySem.W.keepIn K (.ref a__expressions) = true)
    (l__index : K.lookup a__index = some ⟨oc__index, od__index, .func (PySem.W.fnOf "_index" "_index" (defArgs s__index) (defBody s__index) (defScope s__index) .none kV__index dc__index pm__index an__index cd__index ct__index), sl__index⟩)
    (c__index : PySem.W.codeIn K cd__index "_index" = true)
    (k__index : PySem.W.keepIn K (.ref a__index) = true)
    (l__check_expression : K.lookup a__check_expression = some ⟨oc__check_expression, od__check_expression, .func (PySem.W.fnOf "_check_expression" "_check_expression" (defArgs s__check_expression) (defBody s__check_expression) (defScope s__check_expression) .none kV__check_expression dc__check_expression pm__check_expression an__check_expression cd__check_expression ct__check_expression), sl__check_expression⟩)
    (c__check_expression : PySem.W.codeIn K cd__check_expression "_check_expression" = true)
    (k__check_expression : PySem.W.keepIn K (.ref a__check_expression) = true)
    (l__check_statement : K.lookup a__check_statement = some ⟨oc__check_statement, od__check_statement, .func (PySem.W.fnOf "_check_statement" "_check_statement" (defArgs s__check_statement) (defBody s__check_statement) (defScope s__check_statement) .none kV__check_statement dc__check_statement pm__check_statement an__check_statement cd__check_statement ct__check_statement), sl__check_statement⟩)
    (c__check_statement : PySem.W.codeIn K cd__check_statement "_check_statement" = true)
    (k__check_statement : PySem.W.keepIn K (.ref a__check_statement) = true)
    (l__check_place : K.lookup a__check_place = some ⟨oc__check_place, od__check_place, .func (PySem.W.fnOf "_check_place" "_check_place" (defArgs s__check_place) (defBody s__check_place) (defScope s__check_place) .none kV__check_place dc__check_place pm__check_place an__check_place cd__check_place ct__check_place), sl__check_place⟩)
    (c__check_place : PySem.W.codeIn K cd__check_place "_check_place" = true)
    (k__check_place : PySem.W.keepIn K (.ref a__check_place) = true)
    (l__check_port : K.lookup a__check_port = some ⟨oc__check_port, od__check_port, .func (PySem.W.fnOf "_check_port" "_check_port" (defArgs s__check_port) (defBody s__check_port) (defScope s__check_port) .none kV__check_port dc__check_port pm__check_port an__check_port cd__check_port ct__check_port), sl__check_port⟩)
    (c__check_port : PySem.W.codeIn K cd__check_port "_check_port" = true)
    (k__check_port : PySem.W.keepIn K (.ref a__check_port) = true)
    (l__check_call : K.lookup a__check_call = some ⟨oc__check_call, od__check_call, .func (PySem.W.fnOf "_check_call" "_check_call" (defArgs s__check_call) (defBody s__check_call) (defScope s__check_call) .none kV__check_call dc__check_call pm__check_call an__check_call cd__check_call ct__check_call), sl__check_call⟩)
    (c__check_call : PySem.W.codeIn K cd__check_call "_check_call" = true)
    (k__check_call : PySem.W.keepIn K (.ref a__check_call) = true)
    (l__law_rule : K.lookup a__law_rule = some ⟨oc__law_rule, od__law_rule, .func (PySem.W.fnOf "_law_rule" "_law_rule" (defArgs s__law_rule) (defBody s__law_rule) (defScope s__law_rule) .none kV__law_rule dc__law_rule pm__law_rule an__law_rule cd__law_rule ct__law_rule), sl__law_rule⟩)
    (c__law_rule : PySem.W.codeIn K cd__law_rule "_law_rule" = true)
    (k__law_rule : PySem.W.keepIn K (.ref a__law_rule) = true)
    (l__law_rows : K.lookup a__law_rows = some ⟨oc__law_rows, od__law_rows, .func (PySem.W.fnOf "_law_rows" "_law_rows" (defArgs s__law_rows) (defBody s__law_rows) (defScope s__law_rows) .none kV__law_rows dc__law_rows pm__law_rows an__law_rows cd__law_rows ct__law_rows), sl__law_rows⟩)
    (c__law_rows : PySem.W.codeIn K cd__law_rows "_law_rows" = true)
    (k__law_rows : PySem.W.keepIn K (.ref a__law_rows) = true)
    (l__law_task : K.lookup a__law_task = some ⟨oc__law_task, od__law_task, .func (PySem.W.fnOf "_law_task" "_law_task" (defArgs s__law_task) (defBody s__law_task) (defScope s__law_task) .none kV__law_task dc__law_task pm__law_task an__law_task cd__law_task ct__law_task), sl__law_task⟩)
    (c__law_task : PySem.W.codeIn K cd__law_task "_law_task" = true)
    (k__law_task : PySem.W.keepIn K (.ref a__law_task) = true)
    (l__law_whole : K.lookup a__law_whole = some ⟨oc__law_whole, od__law_whole, .func (PySem.W.fnOf "_law_whole" "_law_whole" (defArgs s__law_whole) (defBody s__law_whole) (defScope s__law_whole) .none kV__law_whole dc__law_whole pm__law_whole an__law_whole cd__law_whole ct__law_whole), sl__law_whole⟩)
    (c__law_whole : PySem.W.codeIn K cd__law_whole "_law_whole" = true)
    (k__law_whole : PySem.W.keepIn K (.ref a__law_whole) = true)
    (l__law_operation : K.lookup a__law_operation = some ⟨oc__law_operation, od__law_operation, .func (PySem.W.fnOf "_law_operation" "_law_operation" (defArgs s__law_operation) (defBody s__law_operation) (defScope s__law_operation) .none kV__law_operation dc__law_operation pm__law_operation an__law_operation cd__law_operation ct__law_operation), sl__law_operation⟩)
    (c__law_operation : PySem.W.codeIn K cd__law_operation "_law_operation" = true)
    (k__law_operation : PySem.W.keepIn K (.ref a__law_operation) = true)
    (l__law_counts : K.lookup a__law_counts = some ⟨oc__law_counts, od__law_counts, .func (PySem.W.fnOf "_law_counts" "_law_counts" (defArgs s__law_counts) (defBody s__law_counts) (defScope s__law_counts) .none kV__law_counts dc__law_counts pm__law_counts an__law_counts cd__law_counts ct__law_counts), sl__law_counts⟩)
    (c__law_counts : PySem.W.codeIn K cd__law_counts "_law_counts" = true)
    (k__law_counts : PySem.W.keepIn K (.ref a__law_counts) = true)
    (l__law_deep : K.lookup a__law_deep = some ⟨oc__law_deep, od__law_deep, .func (PySem.W.fnOf "_law_deep" "_law_deep" (defArgs s__law_deep) (defBody s__law_deep) (defScope s__law_deep) .none kV__law_deep dc__law_deep pm__law_deep an__law_deep cd__law_deep ct__law_deep), sl__law_deep⟩)
    (c__law_deep : PySem.W.codeIn K cd__law_deep "_law_deep" = true)
    (k__law_deep : PySem.W.keepIn K (.ref a__law_deep) = true)
    (l__law_loops : K.lookup a__law_loops = some ⟨oc__law_loops, od__law_loops, .func (PySem.W.fnOf "_law_loops" "_law_loops" (defArgs s__law_loops) (defBody s__law_loops) (defScope s__law_loops) .none kV__law_loops dc__law_loops pm__law_loops an__law_loops cd__law_loops ct__law_loops), sl__law_loops⟩)
    (c__law_loops : PySem.W.codeIn K cd__law_loops "_law_loops" = true)
    (k__law_loops : PySem.W.keepIn K (.ref a__law_loops) = true)
    (l__law_unary : K.lookup a__law_unary = some ⟨oc__law_unary, od__law_unary, .func (PySem.W.fnOf "_law_unary" "_law_unary" (defArgs s__law_unary) (defBody s__law_unary) (defScope s__law_unary) .none kV__law_unary dc__law_unary pm__law_unary an__law_unary cd__law_unary ct__law_unary), sl__law_unary⟩)
    (c__law_unary : PySem.W.codeIn K cd__law_unary "_law_unary" = true)
    (k__law_unary : PySem.W.keepIn K (.ref a__law_unary) = true)
    (l__law_wide : K.lookup a__law_wide = some ⟨oc__law_wide, od__law_wide, .func (PySem.W.fnOf "_law_wide" "_law_wide" (defArgs s__law_wide) (defBody s__law_wide) (defScope s__law_wide) .none kV__law_wide dc__law_wide pm__law_wide an__law_wide cd__law_wide ct__law_wide), sl__law_wide⟩)
    (c__law_wide : PySem.W.codeIn K cd__law_wide "_law_wide" = true)
    (k__law_wide : PySem.W.keepIn K (.ref a__law_wide) = true)
    (l__law_bodies : K.lookup a__law_bodies = some ⟨oc__law_bodies, od__law_bodies, .func (PySem.W.fnOf "_law_bodies" "_law_bodies" (defArgs s__law_bodies) (defBody s__law_bodies) (defScope s__law_bodies) .none kV__law_bodies dc__law_bodies pm__law_bodies an__law_bodies cd__law_bodies ct__law_bodies), sl__law_bodies⟩)
    (c__law_bodies : PySem.W.codeIn K cd__law_bodies "_law_bodies" = true)
    (k__law_bodies : PySem.W.keepIn K (.ref a__law_bodies) = true)
    (l_law : K.lookup a_law = some ⟨oc_law, od_law, .func (PySem.W.fnOf "law" "law" (defArgs s_law) (defBody s_law) (defScope s_law) .none kV_law dc_law pm_law an_law cd_law ct_law), sl_law⟩)
    (c_law : PySem.W.codeIn K cd_law "law" = true)
    (k_law : PySem.W.keepIn K (.ref a_law) = true)
    (zs_super : PySem.W.nsIn K mainGlobals "super" = some none)
    (zt_third : PySem.W.nsIn K PySem.cStatics "thirdparty.any" = some none)
    (zq_top : (List.lookup (PySem.Str.ofString "super") P.main.scope.names).isSome = false)
    (xl_RuleError : K.lookup C_RuleError = some (excClassObj nm_RuleError q_RuleError C_RuleError N_RuleError bs_RuleError bm_RuleError true sn_RuleError sub_RuleError ab_RuleError col_RuleError dd_RuleError m0_RuleError m1_RuleError m2_RuleError m3_RuleError m5_RuleError "ValueError.__new__"))
    (xb_RuleError : PySem.HandSPX.refsVE bm_RuleError = true)
    (xi_RuleError : PySem.W.excInitIn K C_RuleError PySem.HandSPX.veTail "ValueError.__new__" = true)
    (xs_RuleError : PySem.W.ks_superIn K C_RuleError C_RuleError "__init__" = some (some (.builtin "ValueError.__init__")))
    (xv_RuleError : PySem.W.subIn K (.ref C_RuleError) (.type "ValueError") = some true)
    (xm_RuleError : PySem.W.mroIn K C_RuleError (.ref C_RuleError) = some true)
    (xo_RuleError : PySem.W.mroIn K C_RuleError (.type "object") = some true)
    (xa_RuleError : PySem.W.findIn K (.ref C_RuleError) "__setattr__" = some (some (.builtin "object.__setattr__")))
    (xg_RuleError : PySem.W.findIn K (.ref C_RuleError) "__getattribute__" = some (some (.builtin "BaseException.__getattribute__")))
    (xh_RuleError : PySem.W.findIn K (.ref C_RuleError) "__getattr__" = some none)
    (xn_RuleError : PySem.W.findIn K (.ref C_RuleError) "rule" = some none)
    (xc_RuleError : PySem.W.findIn K (.ref C_RuleError) "__class__" = some (some (.builtin "object.__class__")))
    (xf_RuleError : PySem.W.findIn K (.ref C_RuleError) "__init__" = some (some (.ref f_RuleError)))
    (xt_RuleError : PySem.W.typeIn K (.ref f_RuleError) = some (.type "function"))
    (xk_RuleError : PySem.W.keepIn K (.ref C_RuleError) = true)
    (xe_RuleError : PySem.W.subIn K (.ref C_RuleError) (.type "BaseException") = some true)
    (xy_RuleError : PySem.W.typeIn K (.ref C_RuleError) = some (.type "type"))
    (xd_RuleError : PySem.W.hasDictIn K C_RuleError = true)
    (xu_RuleError : PySem.W.isClsIn K C_RuleError = true)
    (xw_RuleError : PySem.W.subIn K (.ref C_RuleError) (.ref C_RuleError) = some true)
    (xp_RuleError : PySem.W.specialIn K (.builtin "object.__class__") "__get__" = some (some (.builtin "getset_descriptor.__get__")))
    (xq_RuleError : PySem.W.takesIn K (.builtin "object.__class__") = some true)
    (l_RuleError : K.lookup f_RuleError = some ⟨oc_RuleError, od_RuleError, .func (PySem.W.ksFn "__init__" "RuleError.__init__" (PySem.Errs.eA "rule" ⟨6, 17, 6, 21⟩ ⟨6, 23, 6, 27⟩) (PySem.Errs.eB "rule" parts_RuleError ⟨7, 25, 7, 39⟩ ⟨7, 8, 7, 13⟩ ⟨7, 8, 7, 15⟩ ⟨7, 8, 7, 24⟩ ⟨7, 8, 7, 40⟩ ⟨7, 8, 7, 40⟩ ⟨8, 8, 8, 12⟩ ⟨8, 8, 8, 17⟩ ⟨8, 20, 8, 24⟩ ⟨8, 8, 8, 24⟩) (PySem.Errs.eS "rule" []) .none .none dc_RuleError pm_RuleError an_RuleError (.ref cda_RuleError) ct_RuleError cc_RuleError), osl_RuleError⟩)
    (d_RuleError : K.lookup cda_RuleError = some ⟨ccl_RuleError, cdd_RuleError, .fields vs_RuleError, ccs_RuleError⟩)
    (e_RuleError : vs_RuleError[1]? = some (.str "RuleError.__init__" tq_RuleError))
    (g_RuleError : vs_RuleError[2]? = some (.str file_RuleError tf_RuleError))
    (h_RuleError : (P.main.file == file_RuleError) = true)
    (i_RuleError : K.lookup cc_RuleError = some ⟨cl_RuleError, cld_RuleError, .cell (some (.ref C_RuleError)), csl_RuleError⟩)
    (z_max : PySem.W.nsIn K mainGlobals "max" = some none)
    (z_list : PySem.W.nsIn K mainGlobals "list" = some none)
    (z_enumerate : PySem.W.nsIn K mainGlobals "enumerate" = some none)
    (z_len : PySem.W.nsIn K mainGlobals "len" = some none)
    (z_all : PySem.W.nsIn K mainGlobals "all" = some none)
    (z_range : PySem.W.nsIn K mainGlobals "range" = some none)
    (z_str : PySem.W.nsIn K mainGlobals "str" = some none)
    (z_repr : PySem.W.nsIn K mainGlobals "repr" = some none)
    (z_int : PySem.W.nsIn K mainGlobals "int" = some none)
    (z_abs : PySem.W.nsIn K mainGlobals "abs" = some none)
    (v_RESERVED : PySem.W.nsIn K mainGlobals "RESERVED" = some (some (.ref p_RESERVED)))
    (w_RESERVED : K.lookup p_RESERVED = some ⟨.type "tuple", none, .seq us_RESERVED n_RESERVED, sl_RESERVED⟩)
    (y_RESERVED : Vals [.str "system", .str "in", .str "out", .str "object", .str "cell", .str "operation", .str "give", .str "end", .str "task", .str "every", .str "within", .str "if", .str "else", .str "loop", .str "to", .str "while", .str "read", .str "write", .str "interrupt", .str "calls", .str "mod", .str "and", .str "or"] us_RESERVED.toList)
    (v_MOST_INTERRUPTS : PySem.W.nsIn K mainGlobals "MOST_INTERRUPTS" = some (some (.int (2) t_MOST_INTERRUPTS)))
    (v_MOST_TASKS : PySem.W.nsIn K mainGlobals "MOST_TASKS" = some (some (.int (8) t_MOST_TASKS)))
    (v_MOST_OBJECTS : PySem.W.nsIn K mainGlobals "MOST_OBJECTS" = some (some (.int (4) t_MOST_OBJECTS)))
    (v_MOST_PORTS : PySem.W.nsIn K mainGlobals "MOST_PORTS" = some (some (.int (8) t_MOST_PORTS)))
    (v_DIGITS : PySem.W.nsIn K mainGlobals "DIGITS" = some (some (.str "0123456789" t_DIGITS)))
    (v_LETTERS : PySem.W.nsIn K mainGlobals "LETTERS" = some (some (.str "abcdefghijklmnopqrstuvwxyzABCDEFGHIJKLMNOPQRSTUVWXYZ" t_LETTERS)))
    (v_LONGEST_NAME : PySem.W.nsIn K mainGlobals "LONGEST_NAME" = some (some (.int (16) t_LONGEST_NAME)))
    (v_MOST_OPERATIONS : PySem.W.nsIn K mainGlobals "MOST_OPERATIONS" = some (some (.int (4) t_MOST_OPERATIONS)))
    (v_MOST_DECLARED : PySem.W.nsIn K mainGlobals "MOST_DECLARED" = some (some (.int (16) t_MOST_DECLARED)))
    (v_DEEPEST : PySem.W.nsIn K mainGlobals "DEEPEST" = some (some (.int (6) t_DEEPEST)))
    (v_SINGLE : PySem.W.nsIn K mainGlobals "SINGLE" = some (some (.int (0) t_SINGLE)))
    (v_MOST_PARAMS : PySem.W.nsIn K mainGlobals "MOST_PARAMS" = some (some (.int (4) t_MOST_PARAMS)))
    (v_NO_OBJECT : PySem.W.nsIn K mainGlobals "NO_OBJECT" = some (some (.int (-1) t_NO_OBJECT)))
    (v_LONGEST_TIME : PySem.W.nsIn K mainGlobals "LONGEST_TIME" = some (some (.int (4194304) t_LONGEST_TIME)))
    (v_ARRAY : PySem.W.nsIn K mainGlobals "ARRAY" = some (some (.int (1) t_ARRAY)))
    (v_MOST_CELLS : PySem.W.nsIn K mainGlobals "MOST_CELLS" = some (some (.int (64) t_MOST_CELLS)))
    (v_MOST_STATEMENTS : PySem.W.nsIn K mainGlobals "MOST_STATEMENTS" = some (some (.int (200) t_MOST_STATEMENTS)))
    (v_DEEPEST_LOOP : PySem.W.nsIn K mainGlobals "DEEPEST_LOOP" = some (some (.int (4) t_DEEPEST_LOOP)))
    (v_DEEPEST_LIST : PySem.W.nsIn K mainGlobals "DEEPEST_LIST" = some (some (.int (8) t_DEEPEST_LIST)))
    (v_DEEPEST_ARGUMENT : PySem.W.nsIn K mainGlobals "DEEPEST_ARGUMENT" = some (some (.int (4) t_DEEPEST_ARGUMENT)))
    (v_VARIABLE : PySem.W.nsIn K mainGlobals "VARIABLE" = some (some (.int (2) t_VARIABLE)))
    (v_MOST_PARTS : PySem.W.nsIn K mainGlobals "MOST_PARTS" = some (some (.int (40) t_MOST_PARTS)))
    (v_MOST_ROUNDS : PySem.W.nsIn K mainGlobals "MOST_ROUNDS" = some (some (.int (64) t_MOST_ROUNDS))) :
    Top P K mg :=
  { a_is_reserved := a_is_reserved,
    d_is_reserved := _,
    F_is_reserved := fun_mk (st := s_is_reserved) l_is_reserved c_is_reserved k_is_reserved,
    g_is_reserved := PySem.W.mg_of X G n_is_reserved,
    b_is_reserved := (fun_mk (st := s_is_reserved) l_is_reserved c_is_reserved k_is_reserved).binds (ps := ["name"]) fun _ _ _ _ _ _ us hl => match us, hl with | [_], _ => rfl,
    a_depth := a_depth,
    d_depth := _,
    F_depth := fun_mk (st := s_depth) l_depth c_depth k_depth,
    g_depth := PySem.W.mg_of X G n_depth,
    b_depth := (fun_mk (st := s_depth) l_depth c_depth k_depth).binds (ps := ["e"]) fun _ _ _ _ _ _ us hl => match us, hl with | [_], _ => rfl,
    a_parts := a_parts,
    d_parts := _,
    F_parts := fun_mk (st := s_parts) l_parts c_parts k_parts,
    g_parts := PySem.W.mg_of X G n_parts,
    b_parts := (fun_mk (st := s_parts) l_parts c_parts k_parts).binds (ps := ["e"]) fun _ _ _ _ _ _ us hl => match us, hl with | [_], _ => rfl,
    a__operands := a__operands,
    d__operands := _,
    F__operands := fun_mk (st := s__operands) l__operands c__operands k__operands,
    g__operands := PySem.W.mg_of X G n__operands,
    b__operands := (fun_mk (st := s__operands) l__operands c__operands k__operands).binds (ps := ["e"]) fun _ _ _ _ _ _ us hl => match us, hl with | [_], _ => rfl,
    a_find := a_find,
    d_find := _,
    F_find := fun_mk (st := s_find) l_find c_find k_find,
    g_find := PySem.W.mg_of X G n_find,
    b_find := (fun_mk (st := s_find) l_find c_find k_find).binds (ps := ["rows", "name"]) fun _ _ _ _ _ _ us hl => match us, hl with | [_, _], _ => rfl,
    a_check := a_check,
    d_check := _,
    F_check := fun_mk (st := s_check) l_check c_check k_check,
    g_check := PySem.W.mg_of X G n_check,
    b_check := (fun_mk (st := s_check) l_check c_check k_check).binds (ps := ["program"]) fun _ _ _ _ _ _ us hl => match us, hl with | [_], _ => rfl,
    a__demand := a__demand,
    d__demand := _,
    F__demand := fun_mk (st := s__demand) l__demand c__demand k__demand,
    g__demand := PySem.W.mg_of X G n__demand,
    b__demand := (fun_mk (st := s__demand) l__demand c__demand k__demand).binds (ps := ["holds", "rule"]) fun _ _ _ _ _ _ us hl => match us, hl with | [_, _], _ => rfl,
    a__check_name := a__check_name,
    d__check_name := _,
    F__check_name := fun_mk (st := s__check_name) l__check_name c__check_name k__check_name,
    g__check_name := PySem.W.mg_of X G n__check_name,
    b__check_name := (fun_mk (st := s__check_name) l__check_name c__check_name k__check_name).binds (ps := ["name", "taken"]) fun _ _ _ _ _ _ us hl => match us, hl with | [_, _], _ => rfl,
    a__is_name := a__is_name,
    d__is_name := _,
    F__is_name := fun_mk (st := s__is_name) l__is_name c__is_name k__is_name,
    g__is_name := PySem.W.mg_of X G n__is_name,
    b__is_name := (fun_mk (st := s__is_name) l__is_name c__is_name k__is_name).binds (ps := ["text"]) fun _ _ _ _ _ _ us hl => match us, hl with | [_], _ => rfl,
    a__check_object := a__check_object,
    d__check_object := _,
    F__check_object := fun_mk (st := s__check_object) l__check_object c__check_object k__check_object,
    g__check_object := PySem.W.mg_of X G n__check_object,
    b__check_object := (fun_mk (st := s__check_object) l__check_object c__check_object k__check_object).binds (ps := ["program", "own", "taken"]) fun _ _ _ _ _ _ us hl => match us, hl with | [_, _, _], _ => rfl,
    a__check_operation := a__check_operation,
    d__check_operation := _,
    F__check_operation := fun_mk (st := s__check_operation) l__check_operation c__check_operation k__check_operation,
    g__check_operation := PySem.W.mg_of X G n__check_operation,
    b__check_operation := (fun_mk (st := s__check_operation) l__check_operation c__check_operation k__check_operation).binds (ps := ["program", "own", "operation", "fields", "taken"]) fun _ _ _ _ _ _ us hl => match us, hl with | [_, _, _, _, _], _ => rfl,
    a__check_task := a__check_task,
    d__check_task := _,
    F__check_task := fun_mk (st := s__check_task) l__check_task c__check_task k__check_task,
    g__check_task := PySem.W.mg_of X G n__check_task,
    b__check_task := (fun_mk (st := s__check_task) l__check_task c__check_task k__check_task).binds (ps := ["program", "task", "taken"]) fun _ _ _ _ _ _ us hl => match us, hl with | [_, _, _], _ => rfl,
    a__check_interrupt := a__check_interrupt,
    d__check_interrupt := _,
    F__check_interrupt := fun_mk (st := s__check_interrupt) l__check_interrupt c__check_interrupt k__check_interrupt,
    g__check_interrupt := PySem.W.mg_of X G n__check_interrupt,
    b__check_interrupt := (fun_mk (st := s__check_interrupt) l__check_interrupt c__check_interrupt k__check_interrupt).binds (ps := ["program", "interrupt", "taken"]) fun _ _ _ _ _ _ us hl => match us, hl with | [_, _, _], _ => rfl,
    a__are_times := a__are_times,
    d__are_times := _,
    F__are_times := fun_mk (st := s__are_times) l__are_times c__are_times k__are_times,
    g__are_times := PySem.W.mg_of X G n__are_times,
    b__are_times := (fun_mk (st := s__are_times) l__are_times c__are_times k__are_times).binds (ps := ["every", "within"]) fun _ _ _ _ _ _ us hl => match us, hl with | [_, _], _ => rfl,
    a__with_name := a__with_name,
    d__with_name := _,
    F__with_name := fun_mk (st := s__with_name) l__with_name c__with_name k__with_name,
    g__with_name := PySem.W.mg_of X G n__with_name,
    b__with_name := (fun_mk (st := s__with_name) l__with_name c__with_name k__with_name).binds (ps := ["scope", "name", "kind"]) fun _ _ _ _ _ _ us hl => match us, hl with | [_, _, _], _ => rfl,
    a__with_cells := a__with_cells,
    d__with_cells := _,
    F__with_cells := fun_mk (st := s__with_cells) l__with_cells c__with_cells k__with_cells,
    g__with_cells := PySem.W.mg_of X G n__with_cells,
    b__with_cells := (fun_mk (st := s__with_cells) l__with_cells c__with_cells k__with_cells).binds (ps := ["scope", "cells"]) fun _ _ _ _ _ _ us hl => match us, hl with | [_, _], _ => rfl,
    a__check_body := a__check_body,
    d__check_body := _,
    F__check_body := fun_mk (st := s__check_body) l__check_body c__check_body k__check_body,
    g__check_body := PySem.W.mg_of X G n__check_body,
    b__check_body := (fun_mk (st := s__check_body) l__check_body c__check_body k__check_body).binds (ps := ["program", "own", "body", "scope"]) fun _ _ _ _ _ _ us hl => match us, hl with | [_, _, _, _], _ => rfl,
    a__fits := a__fits,
    d__fits := _,
    F__fits := fun_mk (st := s__fits) l__fits c__fits k__fits,
    g__fits := PySem.W.mg_of X G n__fits,
    b__fits := (fun_mk (st := s__fits) l__fits c__fits k__fits).binds (ps := ["body"]) fun _ _ _ _ _ _ us hl => match us, hl with | [_], _ => rfl,
    a__check_statements := a__check_statements,
    d__check_statements := _,
    F__check_statements := fun_mk (st := s__check_statements) l__check_statements c__check_statements k__check_statements,
    g__check_statements := PySem.W.mg_of X G n__check_statements,
    b__check_statements := (fun_mk (st := s__check_statements) l__check_statements c__check_statements k__check_statements).binds (ps := ["program", "own", "rows", "scope"]) fun _ _ _ _ _ _ us hl => match us, hl with | [_, _, _, _], _ => rfl,
    a__expressions := a__expressions,
    d__expressions := _,
    F__expressions := fun_mk (st := s__expressions) l__expressions c__expressions k__expressions,
    g__expressions := PySem.W.mg_of X G n__expressions,
    b__expressions := (fun_mk (st := s__expressions) l__expressions c__expressions k__expressions).binds (ps := ["statement"]) fun _ _ _ _ _ _ us hl => match us, hl with | [_], _ => rfl,
    a__index := a__index,
    d__index := _,
    F__index := fun_mk (st := s__index) l__index c__index k__index,
    g__index := PySem.W.mg_of X G n__index,
    b__index := (fun_mk (st := s__index) l__index c__index k__index).binds (ps := ["place"]) fun _ _ _ _ _ _ us hl => match us, hl with | [_], _ => rfl,
    a__check_expression := a__check_expression,
    d__check_expression := _,
    F__check_expression := fun_mk (st := s__check_expression) l__check_expression c__check_expression k__check_expression,
    g__check_expression := PySem.W.mg_of X G n__check_expression,
    b__check_expression := (fun_mk (st := s__check_expression) l__check_expression c__check_expression k__check_expression).binds (ps := ["e", "deepest", "scope"]) fun _ _ _ _ _ _ us hl => match us, hl with | [_, _, _], _ => rfl,
    a__check_statement := a__check_statement,
    d__check_statement := _,
    F__check_statement := fun_mk (st := s__check_statement) l__check_statement c__check_statement k__check_statement,
    g__check_statement := PySem.W.mg_of X G n__check_statement,
    b__check_statement := (fun_mk (st := s__check_statement) l__check_statement c__check_statement k__check_statement).binds (ps := ["program", "own", "statement", "scope"]) fun _ _ _ _ _ _ us hl => match us, hl with | [_, _, _, _], _ => rfl,
    a__check_place := a__check_place,
    d__check_place := _,
    F__check_place := fun_mk (st := s__check_place) l__check_place c__check_place k__check_place,
    g__check_place := PySem.W.mg_of X G n__check_place,
    b__check_place := (fun_mk (st := s__check_place) l__check_place c__check_place k__check_place).binds (ps := ["place", "scope"]) fun _ _ _ _ _ _ us hl => match us, hl with | [_, _], _ => rfl,
    a__check_port := a__check_port,
    d__check_port := _,
    F__check_port := fun_mk (st := s__check_port) l__check_port c__check_port k__check_port,
    g__check_port := PySem.W.mg_of X G n__check_port,
    b__check_port := (fun_mk (st := s__check_port) l__check_port c__check_port k__check_port).binds (ps := ["program", "own", "port"]) fun _ _ _ _ _ _ us hl => match us, hl with | [_, _, _], _ => rfl,
    a__check_call := a__check_call,
    d__check_call := _,
    F__check_call := fun_mk (st := s__check_call) l__check_call c__check_call k__check_call,
    g__check_call := PySem.W.mg_of X G n__check_call,
    b__check_call := (fun_mk (st := s__check_call) l__check_call c__check_call k__check_call).binds (ps := ["program", "own", "thing", "operation", "given"]) fun _ _ _ _ _ _ us hl => match us, hl with | [_, _, _, _, _], _ => rfl,
    a__law_rule := a__law_rule,
    d__law_rule := _,
    F__law_rule := fun_mk (st := s__law_rule) l__law_rule c__law_rule k__law_rule,
    g__law_rule := PySem.W.mg_of X G n__law_rule,
    b__law_rule := (fun_mk (st := s__law_rule) l__law_rule c__law_rule k__law_rule).binds (ps := ["program"]) fun _ _ _ _ _ _ us hl => match us, hl with | [_], _ => rfl,
    a__law_rows := a__law_rows,
    d__law_rows := _,
    F__law_rows := fun_mk (st := s__law_rows) l__law_rows c__law_rows k__law_rows,
    g__law_rows := PySem.W.mg_of X G n__law_rows,
    b__law_rows := (fun_mk (st := s__law_rows) l__law_rows c__law_rows k__law_rows).binds (ps := ["word", "many"]) fun _ _ _ _ _ _ us hl => match us, hl with | [_, _], _ => rfl,
    a__law_task := a__law_task,
    d__law_task := _,
    F__law_task := fun_mk (st := s__law_task) l__law_task c__law_task k__law_task,
    g__law_task := PySem.W.mg_of X G n__law_task,
    b__law_task := (fun_mk (st := s__law_task) l__law_task c__law_task k__law_task).binds (ps := ["body", "cells"]) fun _ _ _ _ _ _ us hl => match us, hl with | [_, _], _ => rfl,
    a__law_whole := a__law_whole,
    d__law_whole := _,
    F__law_whole := fun_mk (st := s__law_whole) l__law_whole c__law_whole k__law_whole,
    g__law_whole := PySem.W.mg_of X G n__law_whole,
    b__law_whole := (fun_mk (st := s__law_whole) l__law_whole c__law_whole k__law_whole).binds (ps := ["ports", "objects", "tasks", "interrupts"]) fun _ _ _ _ _ _ us hl => match us, hl with | [_, _, _, _], _ => rfl,
    a__law_operation := a__law_operation,
    d__law_operation := _,
    F__law_operation := fun_mk (st := s__law_operation) l__law_operation c__law_operation k__law_operation,
    g__law_operation := PySem.W.mg_of X G n__law_operation,
    b__law_operation := (fun_mk (st := s__law_operation) l__law_operation c__law_operation k__law_operation).binds (ps := ["name", "params", "cells", "body"]) fun _ _ _ _ _ _ us hl => match us, hl with | [_, _, _, _], _ => rfl,
    a__law_counts := a__law_counts,
    d__law_counts := _,
    F__law_counts := fun_mk (st := s__law_counts) l__law_counts c__law_counts k__law_counts,
    g__law_counts := PySem.W.mg_of X G n__law_counts,
    b__law_counts := (fun_mk (st := s__law_counts) l__law_counts c__law_counts k__law_counts).binds (ps := ["kind", "n"]) fun _ _ _ _ _ _ us hl => match us, hl with | [_, _], _ => rfl,
    a__law_deep := a__law_deep,
    d__law_deep := _,
    F__law_deep := fun_mk (st := s__law_deep) l__law_deep c__law_deep k__law_deep,
    g__law_deep := PySem.W.mg_of X G n__law_deep,
    b__law_deep := (fun_mk (st := s__law_deep) l__law_deep c__law_deep k__law_deep).binds (ps := ["n", "inner"]) fun _ _ _ _ _ _ us hl => match us, hl with | [_, _], _ => rfl,
    a__law_loops := a__law_loops,
    d__law_loops := _,
    F__law_loops := fun_mk (st := s__law_loops) l__law_loops c__law_loops k__law_loops,
    g__law_loops := PySem.W.mg_of X G n__law_loops,
    b__law_loops := (fun_mk (st := s__law_loops) l__law_loops c__law_loops k__law_loops).binds (ps := ["n"]) fun _ _ _ _ _ _ us hl => match us, hl with | [_], _ => rfl,
    a__law_unary := a__law_unary,
    d__law_unary := _,
    F__law_unary := fun_mk (st := s__law_unary) l__law_unary c__law_unary k__law_unary,
    g__law_unary := PySem.W.mg_of X G n__law_unary,
    b__law_unary := (fun_mk (st := s__law_unary) l__law_unary c__law_unary k__law_unary).binds (ps := ["n"]) fun _ _ _ _ _ _ us hl => match us, hl with | [_], _ => rfl,
    a__law_wide := a__law_wide,
    d__law_wide := _,
    F__law_wide := fun_mk (st := s__law_wide) l__law_wide c__law_wide k__law_wide,
    g__law_wide := PySem.W.mg_of X G n__law_wide,
    b__law_wide := (fun_mk (st := s__law_wide) l__law_wide c__law_wide k__law_wide).binds (ps := ["n"]) fun _ _ _ _ _ _ us hl => match us, hl with | [_], _ => rfl,
    a__law_bodies := a__law_bodies,
    d__law_bodies := _,
    F__law_bodies := fun_mk (st := s__law_bodies) l__law_bodies c__law_bodies k__law_bodies,
    g__law_bodies := PySem.W.mg_of X G n__law_bodies,
    b__law_bodies := (fun_mk (st := s__law_bodies) l__law_bodies c__law_bodies k__law_bodies).binds (ps := ["kind", "n"]) fun _ _ _ _ _ _ us hl => match us, hl with | [_, _], _ => rfl,
    a_law := a_law,
    d_law := _,
    F_law := fun_mk (st := s_law) l_law c_law k_law,
    g_law := PySem.W.mg_of X G n_law,
    b_law := (fun_mk (st := s_law) l_law c_law k_law).binds (ps := ["script"]) fun _ _ _ _ _ _ us hl => match us, hl with | [_], _ => rfl,
    C_RuleError := C_RuleError,
    gc_RuleError := PySem.W.mg_of X G nc_RuleError,
    f_RuleError := f_RuleError,
    x_RuleError := { gC := PySem.W.mg_of X G nc_RuleError, noSuper := PySem.W.mg_none_of X G zs_super, noTop := zq_top, cls := ⟨_, _, _, _, _, _, _, _, _, _, _, _, _, _, _, xl_RuleError, xb_RuleError⟩, ini := xi_RuleError, sup := xs_RuleError, subV := xv_RuleError, mroS := xm_RuleError, third := zt_third, sa := xa_RuleError, ga := xg_RuleError, gg := xh_RuleError, noN := xn_RuleError, iC := xf_RuleError, tC := xt_RuleError, kC := xk_RuleError, exC := xe_RuleError, tyC := xy_RuleError, hdC := xd_RuleError, te := exm_own xe_RuleError xu_RuleError xy_RuleError xw_RuleError, fn := ⟨_, _, _, _, _, _, _, _, _, _, _, _, _, _, _, _, _, _, _, _, _, _, _, _, _, _, _, _, _, _, _, fun _ => ⟨_, rfl⟩, l_RuleError, d_RuleError, e_RuleError, g_RuleError, h_RuleError, i_RuleError⟩ },
    xd_RuleError := ⟨xu_RuleError, xg_RuleError, xh_RuleError, xe_RuleError, xc_RuleError, xp_RuleError, xq_RuleError, xo_RuleError⟩,
    xf_RuleError := ⟨xg_RuleError, xh_RuleError, xe_RuleError, xd_RuleError⟩,
    m_max := PySem.W.mg_none_of X G z_max,
    m_list := PySem.W.mg_none_of X G z_list,
    m_enumerate := PySem.W.mg_none_of X G z_enumerate,
    m_len := PySem.W.mg_none_of X G z_len,
    m_all := PySem.W.mg_none_of X G z_all,
    m_range := PySem.W.mg_none_of X G z_range,
    m_str := PySem.W.mg_none_of X G z_str,
    m_repr := PySem.W.mg_none_of X G z_repr,
    m_int := PySem.W.mg_none_of X G z_int,
    m_abs := PySem.W.mg_none_of X G z_abs,
    p_RESERVED := p_RESERVED,
    c_RESERVED := PySem.W.mg_of X G v_RESERVED,
    l_RESERVED := ⟨_, w_RESERVED, rfl, rfl⟩,
    q_RESERVED := fun H => sqT_lit w_RESERVED y_RESERVED,
    t_MOST_INTERRUPTS := t_MOST_INTERRUPTS,
    c_MOST_INTERRUPTS := PySem.W.mg_of X G v_MOST_INTERRUPTS,
    t_MOST_TASKS := t_MOST_TASKS,
    c_MOST_TASKS := PySem.W.mg_of X G v_MOST_TASKS,
    t_MOST_OBJECTS := t_MOST_OBJECTS,
    c_MOST_OBJECTS := PySem.W.mg_of X G v_MOST_OBJECTS,
    t_MOST_PORTS := t_MOST_PORTS,
    c_MOST_PORTS := PySem.W.mg_of X G v_MOST_PORTS,
    t_DIGITS := t_DIGITS,
    c_DIGITS := PySem.W.mg_of X G v_DIGITS,
    t_LETTERS := t_LETTERS,
    c_LETTERS := PySem.W.mg_of X G v_LETTERS,
    t_LONGEST_NAME := t_LONGEST_NAME,
    c_LONGEST_NAME := PySem.W.mg_of X G v_LONGEST_NAME,
    t_MOST_OPERATIONS := t_MOST_OPERATIONS,
    c_MOST_OPERATIONS := PySem.W.mg_of X G v_MOST_OPERATIONS,
    t_MOST_DECLARED := t_MOST_DECLARED,
    c_MOST_DECLARED := PySem.W.mg_of X G v_MOST_DECLARED,
    t_DEEPEST := t_DEEPEST,
    c_DEEPEST := PySem.W.mg_of X G v_DEEPEST,
    t_SINGLE := t_SINGLE,
    c_SINGLE := PySem.W.mg_of X G v_SINGLE,
    t_MOST_PARAMS := t_MOST_PARAMS,
    c_MOST_PARAMS := PySem.W.mg_of X G v_MOST_PARAMS,
    t_NO_OBJECT := t_NO_OBJECT,
    c_NO_OBJECT := PySem.W.mg_of X G v_NO_OBJECT,
    t_LONGEST_TIME := t_LONGEST_TIME,
    c_LONGEST_TIME := PySem.W.mg_of X G v_LONGEST_TIME,
    t_ARRAY := t_ARRAY,
    c_ARRAY := PySem.W.mg_of X G v_ARRAY,
    t_MOST_CELLS := t_MOST_CELLS,
    c_MOST_CELLS := PySem.W.mg_of X G v_MOST_CELLS,
    t_MOST_STATEMENTS := t_MOST_STATEMENTS,
    c_MOST_STATEMENTS := PySem.W.mg_of X G v_MOST_STATEMENTS,
    t_DEEPEST_LOOP := t_DEEPEST_LOOP,
    c_DEEPEST_LOOP := PySem.W.mg_of X G v_DEEPEST_LOOP,
    t_DEEPEST_LIST := t_DEEPEST_LIST,
    c_DEEPEST_LIST := PySem.W.mg_of X G v_DEEPEST_LIST,
    t_DEEPEST_ARGUMENT := t_DEEPEST_ARGUMENT,
    c_DEEPEST_ARGUMENT := PySem.W.mg_of X G v_DEEPEST_ARGUMENT,
    t_VARIABLE := t_VARIABLE,
    c_VARIABLE := PySem.W.mg_of X G v_VARIABLE,
    t_MOST_PARTS := t_MOST_PARTS,
    c_MOST_PARTS := PySem.W.mg_of X G v_MOST_PARTS,
    t_MOST_ROUNDS := t_MOST_ROUNDS,
    c_MOST_ROUNDS := PySem.W.mg_of X G v_MOST_ROUNDS }
theorem all_mk {l : PySem.W.OpenLaw} {w : World} {K : PySem.W.Frag} {mg : Str → Option Value} {fa : Addr} (T : Top l.prog K mg) (hfa : mg "law" = some (.ref fa)) :
    ∃ fd : FuncData, (∀ (s : Shared) (v : Value), BindsTo s fd ⟨[v], []⟩ [("script", v)]) ∧ ∀ base : Heap, FnG l.prog w K mg base 52 fa fd ["script"] (sp_law K) := by
  have e := hfa.symm.trans T.g_law
  cases e
  refine ⟨T.d_law, fun s v => ?_, fun base => ok_law T⟩
  obtain ⟨oc, od, kV, doc, pm, an, cdv, ct, osl, e, lk, hcd⟩ := T.F_law.ex
  rw [e]
  exact .of_eq rfl
end Mine
open PySem PySem.W PyProof.Rows
set_option maxHeartbeats 0 in
theorem PySem.Challenge.cw_deadbeat_k75_limits_of_programs_holds : PySem.Challenge.rw_deadbeat_k75_limits_of_programs.Holds := by
  w_on; o_law; k_head; (case hw => w_witness2)
  k_fill
  refine L2.walk_g (l := PySem.Challenge.rw_deadbeat_k75_limits_of_programs) (n := 63) (k := 52) (x := "script") (sp := fun w => Mine.sp_law _) rfl (by decide) rfl ⟨rfl, by decide, by decide⟩ (fun w h Y => PySem.W.kIn_of Y) ?F (fun _ _ a ns hl hS => ⟨a, ns, rfl, hS, hl, fun _ => rfl⟩)
  case F =>
    intro w mg fa h KX G hmg
    refine' Mine.all_mk (Mine.top_mk (P := PySem.Challenge.rw_deadbeat_k75_limits_of_programs.prog) (w := w) KX G ?n_is_reserved ?n_depth ?n_parts ?n__operands ?n_find ?n_check ?n__demand ?n__check_name ?n__is_name ?n__check_object ?n__check_operation ?n__check_task ?n__check_interrupt ?n__are_times ?n__with_name ?n__with_cells ?n__check_body ?n__fits ?n__check_statements ?n__expressions ?n__index ?n__check_expression ?n__check_statement ?n__check_place ?n__check_port ?n__check_call ?n__law_rule ?n__law_rows ?n__law_task ?n__law_whole ?n__law_operation ?n__law_counts ?n__law_deep ?n__law_loops ?n__law_unary ?n__law_wide ?n__law_bodies ?n_law ?nc_RuleError ?l_is_reserved ?c_is_reserved ?k_is_reserved ?l_depth ?c_depth ?k_depth ?l_parts ?c_parts ?k_parts ?l__operands ?c__operands ?k__operands ?l_find ?c_find ?k_find ?l_check ?c_check ?k_check ?l__demand ?c__demand ?k__demand ?l__check_name ?c__check_name ?k__check_name ?l__is_name ?c__is_name ?k__is_name ?l__check_object ?c__check_object ?k__check_object ?l__check_operation ?c__check_operation ?k__check_operation ?l__check_task ?c__check_task ?k__check_task ?l__check_interrupt ?c__check_interrupt ?k__check_interrupt ?l__are_times ?c__are_times ?k__are_times ?l__with_name ?c__with_name ?k__with_name ?l__with_cells ?c__with_cells ?k__with_cells ?l__check_body ?c__check_body ?k__check_body ?l__fits ?c__fits ?k__fits ?l__check_statements ?c__check_statements ?k__check_statements ?l__expressions ?c__expressions ?k__expressions ?l__index ?c__index ?k__index ?l__check_expression ?c__check_expression ?k__check_expression ?l__check_statement ?c__check_statement ?k__check_statement ?l__check_place ?c__check_place ?k__check_place ?l__check_port ?c__check_port ?k__check_port ?l__check_call ?c__check_call ?k__check_call ?l__law_rule ?c__law_rule ?k__law_rule ?l__law_rows ?c__law_rows ?k__law_rows ?l__law_task ?c__law_task ?k__law_task ?l__law_whole ?c__law_whole ?k__law_whole ?l__law_operation ?c__law_operation ?k__law_operation ?l__law_counts ?c__law_counts ?k__law_counts ?l__law_deep ?c__law_deep ?k__law_deep ?l__law_loops ?c__law_loops ?k__law_loops ?l__law_unary ?c__law_unary ?k__law_unary ?l__law_wide ?c__law_wide ?k__law_wide ?l__law_bodies ?c__law_bodies ?k__law_bodies ?l_law ?c_law ?k_law ?zs_super ?zt_third ?zq_top ?xl_RuleError ?xb_RuleError ?xi_RuleError ?xs_RuleError ?xv_RuleError ?xm_RuleError ?xo_RuleError ?xa_RuleError ?xg_RuleError ?xh_RuleError ?xn_RuleError ?xc_RuleError ?xf_RuleError ?xt_RuleError ?xk_RuleError ?xe_RuleError ?xy_RuleError ?xd_RuleError ?xu_RuleError ?xw_RuleError ?xp_RuleError ?xq_RuleError ?l_RuleError ?d_RuleError ?e_RuleError ?g_RuleError ?h_RuleError ?i_RuleError ?z_max ?z_list ?z_enumerate ?z_len ?z_all ?z_range ?z_str ?z_repr ?z_int ?z_abs ?v_RESERVED ?w_RESERVED ?y_RESERVED ?v_MOST_INTERRUPTS ?v_MOST_TASKS ?v_MOST_OBJECTS ?v_MOST_PORTS ?v_DIGITS ?v_LETTERS ?v_LONGEST_NAME ?v_MOST_OPERATIONS ?v_MOST_DECLARED ?v_DEEPEST ?v_SINGLE ?v_MOST_PARAMS ?v_NO_OBJECT ?v_LONGEST_TIME ?v_ARRAY ?v_MOST_CELLS ?v_MOST_STATEMENTS ?v_DEEPEST_LOOP ?v_DEEPEST_LIST ?v_DEEPEST_ARGUMENT ?v_VARIABLE ?v_MOST_PARTS ?v_MOST_ROUNDS) hmg
    (case n_is_reserved => k_is); (case n_depth => k_is); (case n_parts => k_is); (case n__operands => k_is); (case n_find => k_is); (case n_check => k_is); (case n__demand => k_is); (case n__check_name => k_is); (case n__is_name => k_is); (case n__check_object => k_is); (case n__check_operation => k_is); (case n__check_task => k_is); (case n__check_interrupt => k_is); (case n__are_times => k_is); (case n__with_name => k_is); (case n__with_cells => k_is); (case n__check_body => k_is); (case n__fits => k_is); (case n__check_statements => k_is); (case n__expressions => k_is); (case n__index => k_is); (case n__check_expression => k_is); (case n__check_statement => k_is); (case n__check_place => k_is); (case n__check_port => k_is); (case n__check_call => k_is); (case n__law_rule => k_is); (case n__law_rows => k_is); (case n__law_task => k_is); (case n__law_whole => k_is); (case n__law_operation => k_is); (case n__law_counts => k_is); (case n__law_deep => k_is); (case n__law_loops => k_is); (case n__law_unary => k_is); (case n__law_wide => k_is); (case n__law_bodies => k_is); (case n_law => k_is); (case nc_RuleError => k_is); (case l_is_reserved => k_is); (case c_is_reserved => k_is); (case k_is_reserved => k_is); (case l_depth => k_is); (case c_depth => k_is); (case k_depth => k_is); (case l_parts => k_is); (case c_parts => k_is); (case k_parts => k_is); (case l__operands => k_is); (case c__operands => k_is); (case k__operands => k_is); (case l_find => k_is); (case c_find => k_is); (case k_find => k_is); (case l_check => k_is); (case c_check => k_is); (case k_check => k_is); (case l__demand => k_is); (case c__demand => k_is); (case k__demand => k_is); (case l__check_name => k_is); (case c__check_name => k_is); (case k__check_name => k_is); (case l__is_name => k_is); (case c__is_name => k_is); (case k__is_name => k_is); (case l__check_object => k_is); (case c__check_object => k_is); (case k__check_object => k_is); (case l__check_operation => k_is); (case c__check_operation => k_is); (case k__check_operation => k_is); (case l__check_task => k_is); (case c__check_task => k_is); (case k__check_task => k_is); (case l__check_interrupt => k_is); (case c__check_interrupt => k_is); (case k__check_interrupt => k_is); (case l__are_times => k_is); (case c__are_times => k_is); (case k__are_times => k_is); (case l__with_name => k_is); (case c__with_name => k_is); (case k__with_name => k_is); (case l__with_cells => k_is); (case c__with_cells => k_is); (case k__with_cells => k_is); (case l__check_body => k_is); (case c__check_body => k_is); (case k__check_body => k_is); (case l__fits => k_is); (case c__fits => k_is); (case k__fits => k_is); (case l__check_statements => k_is); (case c__check_statements => k_is); (case k__check_statements => k_is); (case l__expressions => k_is); (case c__expressions => k_is); (case k__expressions => k_is); (case l__index => k_is); (case c__index => k_is); (case k__index => k_is); (case l__check_expression => k_is); (case c__check_expression => k_is); (case k__check_expression => k_is); (case l__check_statement => k_is); (case c__check_statement => k_is); (case k__check_statement => k_is); (case l__check_place => k_is); (case c__check_place => k_is); (case k__check_place => k_is); (case l__check_port => k_is); (case c__check_port => k_is); (case k__check_port => k_is); (case l__check_call => k_is); (case c__check_call => k_is); (case k__check_call => k_is); (case l__law_rule => k_is); (case c__law_rule => k_is); (case k__law_rule => k_is); (case l__law_rows => k_is); (case c__law_rows => k_is); (case k__law_rows => k_is); (case l__law_task => k_is); (case c__law_task => k_is); (case k__law_task => k_is); (case l__law_whole => k_is); (case c__law_whole => k_is); (case k__law_whole => k_is); (case l__law_operation => k_is); (case c__law_operation => k_is); (case k__law_operation => k_is); (case l__law_counts => k_is); (case c__law_counts => k_is); (case k__law_counts => k_is); (case l__law_deep => k_is); (case c__law_deep => k_is); (case k__law_deep => k_is); (case l__law_loops => k_is); (case c__law_loops => k_is); (case k__law_loops => k_is); (case l__law_unary => k_is); (case c__law_unary => k_is); (case k__law_unary => k_is); (case l__law_wide => k_is); (case c__law_wide => k_is); (case k__law_wide => k_is); (case l__law_bodies => k_is); (case c__law_bodies => k_is); (case k__law_bodies => k_is); (case l_law => k_is); (case c_law => k_is); (case k_law => k_is); (case zs_super => k_is); (case zt_third => k_is); (case zq_top => first | rfl | k_is | kx_is | ks_is | decide +kernel | kernel_rfl | with_unfolding_all rfl); (case xl_RuleError => k_is); (case xb_RuleError => first | rfl | k_is | kx_is | ks_is | decide +kernel | kernel_rfl | with_unfolding_all rfl); (case xi_RuleError => first | rfl | k_is | kx_is | ks_is | decide +kernel | kernel_rfl | with_unfolding_all rfl); (case xs_RuleError => first | rfl | k_is | kx_is | ks_is | decide +kernel | kernel_rfl | with_unfolding_all rfl); (case xv_RuleError => k_is); (case xm_RuleError => k_is); (case xo_RuleError => k_is); (case xa_RuleError => k_is); (case xg_RuleError => k_is); (case xh_RuleError => k_is); (case xn_RuleError => k_is); (case xc_RuleError => k_is); (case xf_RuleError => k_is); (case xt_RuleError => k_is); (case xk_RuleError => k_is); (case xe_RuleError => k_is); (case xy_RuleError => k_is); (case xd_RuleError => k_is); (case xu_RuleError => k_is); (case xw_RuleError => k_is); (case xp_RuleError => k_is); (case xq_RuleError => k_is); (case l_RuleError => k_is); (case d_RuleError => k_is); (case e_RuleError => first | rfl | k_is | kx_is | ks_is | decide +kernel | kernel_rfl | with_unfolding_all rfl); (case g_RuleError => first | rfl | k_is | kx_is | ks_is | decide +kernel | kernel_rfl | with_unfolding_all rfl); (case h_RuleError => first | rfl | k_is | kx_is | ks_is | decide +kernel | kernel_rfl | with_unfolding_all rfl); (case i_RuleError => k_is); (case z_max => k_is); (case z_list => k_is); (case z_enumerate => k_is); (case z_len => k_is); (case z_all => k_is); (case z_range => k_is); (case z_str => k_is); (case z_repr => k_is); (case z_int => k_is); (case z_abs => k_is); (case v_RESERVED => k_is); (case w_RESERVED => k_is); (case y_RESERVED => first | k_is | (repeat (first | exact .nil | refine .cons ⟨_, rfl⟩ ?_))); (case v_MOST_INTERRUPTS => k_is); (case v_MOST_TASKS => k_is); (case v_MOST_OBJECTS => k_is); (case v_MOST_PORTS => k_is); (case v_DIGITS => k_is); (case v_LETTERS => k_is); (case v_LONGEST_NAME => k_is); (case v_MOST_OPERATIONS => k_is); (case v_MOST_DECLARED => k_is); (case v_DEEPEST => k_is); (case v_SINGLE => k_is); (case v_MOST_PARAMS => k_is); (case v_NO_OBJECT => k_is); (case v_LONGEST_TIME => k_is); (case v_ARRAY => k_is); (case v_MOST_CELLS => k_is); (case v_MOST_STATEMENTS => k_is); (case v_DEEPEST_LOOP => k_is); (case v_DEEPEST_LIST => k_is); (case v_DEEPEST_ARGUMENT => k_is); (case v_VARIABLE => k_is); (case v_MOST_PARTS => k_is); (case v_MOST_ROUNDS => k_is)
