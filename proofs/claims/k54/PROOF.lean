import PyProof.Rows.All
import Wide.All
import OpenK.AllK
import Wide.FinOn
import PyProof.RulesMatch
import HandS.Base
import HandS.Call
import HandS.Words
import HandS.IsInst
import HandS.ForExc
import HandS.Zip
import HandS.Walk
import HandS.Strs
import HandS.ForMost
import HandS.RaiseMore
import PyProof.InstEq
import HandS.TupSets
import PyProof.EqKinds
import PyProof.NeKinds
import HandS.Evl
import HandS.SortInts
import HandS.DictComp
import HandS.More
import HandS.List
import KE.DatumOrd
import HandS.SortKw
import HandS.SetKeys
import HandS.SetFor
import HandS.SortRule
import PySem.Challenge.RW_deadbeat_k54_accepted_releases
import HandS.Wide
import HandS.WideBits
import HandS.Style
import HandS.StrMore
import HandS.IntHex
import HandS.ReSub
import HandS.Codes
import HandS.TupLe
import HandS.Deep
import HandS.DeepEq
set_option Elab.async false
set_option linter.all false
set_option maxRecDepth 100000
namespace L2
open PySem PySem.Spec PyProof.Rows
/-- the cases of a match over texts: a written text or whatever is left, and what is done -/
def tCases (z : Str) : List (Option Str × TS) → TS
  | [] => fun D σ H => D.nx σ H
  | (none, t) :: _ => t
  | (some c, t) :: r => fun D σ H => if z = c then t D σ H else tCases z r D σ H
def tMatch (te : TE) (l : List (Option Str × TS)) : TS := fun D σ H => te σ H fun x H1 => ∃ z : Str, x = .str z ∧ tCases z l D σ H1
inductive PCs (X : Cx) : List MatchCase → List (Option Str × TS) → Prop
  | nil : PCs X [] []
  | rest {body : List Stmt} {t : TS} {p : Pos} {r : List MatchCase} : PSs X body t → PCs X (⟨.MatchAs none none p, none, body⟩ :: r) [(none, t)]
  | text {body : List Stmt} {t : TS} {c : Str} {j : Nat} {p p2 : Pos} {r : List MatchCase} {l : List (Option Str × TS)} : PSs X body t → PCs X r l →
      PCs X (⟨.MatchValue (.Constant (.str c) j p) p2, none, body⟩ :: r) ((some c, t) :: l)
theorem run_cases {X : Cx} {z : Str} {u : Value} (ru : RelV (.str z) u) : ∀ {cs : List MatchCase} {l : List (Option Str × TS)}, PCs X cs l → ∀ (first : Bool) (pins : List (Addr × Obj)) (s : Shared) (σ : St) (H : Hp) (D : Ends), Inv X pins σ H s → tCases z l D σ H →
    wpAny (model X.prog X.w) X.A (matchCases cs X.env u first) (SP X pins D) X.xe s
  | _, _, .nil, first, pins, s, σ, H, D, I, h => wpAny_matchCases_nil ⟨σ, H, I, h⟩
  | _, _, .rest hb, first, pins, s, σ, H, D, I, h => by
    refine wpAny_matchCases_cons (wpAny_matchPattern_Capture ?_)
    exact wpAny_assignInOrder_none (hb.run pins s σ H D I h)
  | _, _, .text (c := c) (l := l) hb hr, first, pins, s, σ, H, D, I, h => by
    refine wpAny_matchCases_cons (wpAny_matchPattern_Value ?_)
    refine thn ((pe_str (X := X) (x := c)).run pins s σ H (fun v H' => v = .str c ∧ H' = H) I ⟨rfl, rfl⟩) fun v s1 hh => ?_
    obtain ⟨x, H1, I1, rx, ex, eH⟩ := hh
    subst ex
    subst eH
    refine thn (op_eq pins s1 σ H1 (.str z) (.str c) u v (fun y H' => y = .bl (decide (V.str z = V.str c)) ∧ H' = H1) I1 ru rx ⟨rfl, rfl, rfl⟩) fun y s2 hh => ?_
    obtain ⟨x, H2, I2, rx2, ex, eH⟩ := hh
    subst ex
    subst eH
    cases rx2
    refine wpAny_truthy_bool ?_
    have h' : (if z = c then _ else _) := h
    by_cases e : z = c
    · rw [if_pos e] at h'
      rw [decide_eq_true (by rw [e])]
      exact wpAny_assignInOrder_none (hb.run pins s2 σ H2 D I2 h')
    · rw [if_neg e] at h'
      rw [decide_eq_false (fun q => e (by injection q))]
      exact run_cases ru hr false pins s2 σ H2 D I2 h'
theorem ps_match {X : Cx} {e : Expr} {te : TE} {cs : List MatchCase} {l : List (Option Str × TS)} {pos : Pos} (he : PE X e te) (hc : PCs X cs l) : PS X (.Match e cs pos) (tMatch te l) := by
  refine ⟨fun pins s σ H D I h => wpAny_Match ?_⟩
  refine thn (he.run pins s σ H _ I h) fun u s1 hh => ?_
  obtain ⟨x, H1, I1, rx, z, ez, hz⟩ := hh
  subst ez
  exact run_cases rx hc true pins s1 σ H1 D I1 hz
/-- a module's constant: an int, a text, an object -/
theorem pe_gi {X : Cx} {x : Str} {n : Int} {t : Tok} {pos : Pos} (hg : Gl X x) (hm : X.mg x = some (.int n t)) (hd : (x == ("__debug__" : Str)) = false := by decide) : PE X (.Name x pos) (tC (.int n)) := pe_glob hg hm ⟨_, rfl⟩ hd
theorem pe_gs {X : Cx} {x : Str} {z : Str} {t : Tok} {pos : Pos} (hg : Gl X x) (hm : X.mg x = some (.str z t)) (hd : (x == ("__debug__" : Str)) = false := by decide) : PE X (.Name x pos) (tC (.str z)) := pe_glob hg hm ⟨_, rfl⟩ hd
theorem pe_gr {X : Cx} {x : Str} {a : Addr} {pos : Pos} (hg : Gl X x) (hm : X.mg x = some (.ref a)) (hd : (x == ("__debug__" : Str)) = false := by decide) : PE X (.Name x pos) (tC (.ref a)) := pe_glob (v := .ref a) hg hm rfl hd
/-- a built-in type as a value -/
theorem pe_ty {X : Cx} {x : Str} {T : String} {pos : Pos} (hg : Gl X x) (hm : X.mg x = none) (hv : bootBuiltins x = some (.type T)) (hn : x ≠ "__name__" := by decide) (hd : (x == ("__debug__" : Str)) = false := by decide) : PE X (.Name x pos) (tC (.ty T)) :=
  ⟨fun _ s _ H _ I h => ld_blt I hg hm hv ⟨.ty T, H, I, rfl, h⟩ hn hd⟩
/-- isinstance of a plain value and a built-in type -/
theorem isi_int {K : PySem.W.Frag} {H : Hp} {Q : VK} {i : Int} (q : Q (.bl true) H) : rIsi K [.int i, .ty "int"] H Q := ⟨_, _, _, _, true, rfl, .ty _, .base (.int _), kit_ty (by decide +kernel), q⟩
theorem isi_int_bool {K : PySem.W.Frag} {H : Hp} {Q : VK} {i : Int} (q : Q (.bl false) H) : rIsi K [.int i, .ty "bool"] H Q := ⟨_, _, _, _, false, rfl, .ty _, .base (.int _), kit_ty (by decide +kernel), q⟩
theorem Same.none {H H' : Hp} (e : Same H H') {p : Addr} (h : H' p = Option.none) : H p = Option.none := Same.free e h
theorem same_new {H : Hp} {p : Addr} {o : HO} (h : H p = Option.none) : Same H (upd H p o) := fun b x e => by
  rw [upd_ne (ne_of_none e h)]
  exact e
theorem or_test {t u : TT} {σ : St} {H : Hp} {a b : Bool} {Q : Bool → Hp → Prop} (h1 : ∀ Q' : Bool → Hp → Prop, Q' a H → t σ H Q') (h2 : a = false → ∀ Q' : Bool → Hp → Prop, Q' b H → u σ H Q') (q : Q (a || b) H) : tOr t u σ H Q := by
  refine h1 _ ?_
  cases a with
  | true => exact iteT q
  | false => exact iteF (h2 rfl _ q)
theorem and_test {t u : TT} {σ : St} {H : Hp} {a b : Bool} {Q : Bool → Hp → Prop} (h1 : ∀ Q' : Bool → Hp → Prop, Q' a H → t σ H Q') (h2 : a = true → ∀ Q' : Bool → Hp → Prop, Q' b H → u σ H Q') (q : Q (a && b) H) : tAnd t u σ H Q := by
  refine h1 _ ?_
  cases a with
  | true => exact iteT (h2 rfl _ q)
  | false => exact iteF q
theorem if_or {t u : TT} {a b : Bool} {A B : TS} {D : Ends} {σ : St} {H : Hp} (h1 : ∀ Q' : Bool → Hp → Prop, Q' a H → t σ H Q') (h2 : a = false → ∀ Q' : Bool → Hp → Prop, Q' b H → u σ H Q') (q : if (a || b) = true then A D σ H else B D σ H) : tIfS (tOr t u) A B D σ H := or_test h1 h2 q
theorem if_and {t u : TT} {a b : Bool} {A B : TS} {D : Ends} {σ : St} {H : Hp} (h1 : ∀ Q' : Bool → Hp → Prop, Q' a H → t σ H Q') (h2 : a = true → ∀ Q' : Bool → Hp → Prop, Q' b H → u σ H Q') (q : if (a && b) = true then A D σ H else B D σ H) : tIfS (tAnd t u) A B D σ H := and_test h1 h2 q
theorem Same.off {H H1 : Hp} {D : Addr} {x : HO} (k : Same H H1) (n : H D = Option.none) : Same H (upd H1 D x) := fun b y e => by
  rw [upd_ne (ne_of_none e n)]
  exact k b y e
theorem Same.seqT {K : PySem.W.Frag} {H H' : Hp} {a : Addr} {xs : List V} (e : Same H H') (h : SqT K H a xs) : SqT K H' a xs := by
  rcases h with h | h
  · rcases h with h | ⟨o, h⟩
    · exact .inl (.inl (e _ _ h))
    · exact .inl (.inr ⟨o, e _ _ h⟩)
  · exact .inr h
/-- a def that may raise, called where it does not -/
theorem pass_no {X : Cx} : Passes (L2.CX X.prog X.w) X (fun _ _ _ => False) := fun _ _ _ _ _ _ _ c => by
  obtain ⟨_, _, _, _, _, _, _, _, _, _, _, _, z⟩ := c
  exact z.elim
def rListOf (K : PySem.W.Frag) : List V → Hp → VK → Prop := fun xs H Q => ∃ p ys, xs = [V.ref p] ∧ (SqL K H p ys ∨ SqT K H p ys) ∧ ∀ l, H l = Option.none → Q (.ref l) (upd H l (.lst ys))
theorem if_t {b : Bool} {A B : Prop} (h : b = true) (q : A) : if b = true then A else B := by
  rw [if_pos h]
  exact q
theorem if_f {b : Bool} {A B : Prop} (h : b = false) (q : B) : if b = true then A else B := by
  rw [if_neg (by rw [h]; exact Bool.noConfusion)]
  exact q
/-- a tuple of the written part, as it stands there -/
theorem sqT_lit {K : PySem.W.Frag} {p : Addr} {dd : Option Addr} {us : Array Value} {n : Nat} {sl : Array (Option Value)} {xs : List V} {H : Hp} (w : K.lookup p = some ⟨.type "tuple", dd, .seq us n, sl⟩) (y : Vals xs us.toList) (hl : xs.length ≤ sizeLine := by decide) : SqT K H p xs :=
  .inr ⟨_, us, n, w, rfl, rfl, Nat.le_trans (Nat.le_of_eq (by rw [← Array.length_toList]; exact (Paired.length y).symm)) hl, y⟩
end L2

set_option Elab.async false
set_option linter.all false
set_option maxRecDepth 100000
namespace L2
open PySem PySem.Spec PyProof.Rows
/-! an own object, and a method, whose def may raise, within a try's body -/
section
variable {X : Cx} {CX : CXT} {lv : Nat} {fa cA : Addr} {fd : FuncData} {pn : List Str} {sp : Sp} {nm mm : Str} {p1 p2 p3 : Pos} {e1 oe : Expr} {er : List Expr} {to' : TE} {tr : TA}
theorem mkS_run {EE : XK} {pins : List (Addr × Obj)} {σ : St} {H : Hp} {s : Shared} {Q : VK} {us : List Value} {vs : List V}
    (M : Mk X.K cA fa) (F : FnOk X.prog X.w X.K X.mg X.base CX lv fa fd pn sp) (rm : Room (lv + 1) X.A)
    (bi : Binds X.K fd pn []) (out : PassesAt CX X σ EE) (I : Inv X pins σ H s) (r : Vals vs us)
    (h : ∀ x dx, H x = none → H dx = none → dx ≠ x →
      sp (.ref x :: vs) (upd (upd H dx (.own x)) x (.ins cA dx [])) (fun v H2 => v = .non ∧ Q (.ref x) H2) EE) :
    wpAny (model X.prog X.w) X.A (call (.ref cA) us) (EP X pins σ Q) X.xe s := by
  have J := Inv.made (C := cA) I
  obtain ⟨n, en⟩ : ∃ n, n = s.heap.objs.size := ⟨_, rfl⟩
  have q0 := h _ _ (I.hok.fresh (Nat.le_succ _)) (I.hok.fresh (Nat.le_refl _)) (Nat.ne_of_lt (Nat.lt_succ_self _))
  have rr : Vals (V.ref (s.heap.objs.size + 1) :: vs) (Value.ref (s.heap.objs.size + 1) :: us) := .cons rfl r
  have ln : (Value.ref (s.heap.objs.size + 1) :: us).length = pn.length :=
    rr.length.symm.trans (F.len _ _ _ _ q0)
  have bb := bi _ (Value.ref (s.heap.objs.size + 1) :: us) J.kIn (by rw [List.append_nil]; exact ln)
  rw [List.append_nil] at bb
  have run := F.run _ X.stack _ _ ⟨Value.ref (s.heap.objs.size + 1) :: us, []⟩ _ _ _ EE
    (rm.make cA us []) (J.env0.make cA us []) bb rr q0
  refine wpAny_call (make_map (f := fa) I.kIn M.makes M.init (beq_iff_eq.mp M.fn) (codeAny_mono run fun res s' got => ?_))
  match res, got with
  | .error e, got => exact out pins _ _ e s' J got
  | .ok (.ret u), got =>
    obtain ⟨v, H', J3, rv, ev, q3⟩ := J.after got
    rw [ev] at rv
    exact ⟨rv, V.ref (s.heap.objs.size + 1), H', J3, rfl, q3⟩
  | .ok .next, got => cases got
  | .ok .brk, got => cases got
  | .ok .cont, got => cases got
def tMakeS (C : Addr) (sp : Sp) (E : St → XK) (t : TA) : TE := fun σ H Q => t σ H fun vs H1 => ∀ x dx, H1 x = none → H1 dx = none → dx ≠ x →
  sp (.ref x :: vs) (upd (upd H1 dx (.own x)) x (.ins C dx [])) (fun v H2 => v = .non ∧ Q (.ref x) H2) (E σ)
theorem pe_makeS {EE : St → XK} (M : Mk X.K cA fa) (F : FnOk X.prog X.w X.K X.mg X.base CX lv fa fd pn sp)
    (rm : Room (lv + 1) X.A) (hg : Gl X nm) (hm : X.mg nm = some (.ref cA)) (bi : Binds X.K fd pn [])
    (out : ∀ σ, PassesAt CX X σ (EE σ)) (ha : PA X (e1 :: er) tr) (nd : (nm == ("__debug__" : Str)) = false := by decide)
    (t1 : starEach (e1 :: er) X.env = (false, eval e1 X.env) :: starEach er X.env := by rfl)
    (t2 : (backTo p2 (starEach er X.env)).any (·.1) = false := by rfl) :
    PE X (.Call (.Name nm p1) (e1 :: er) [] p2) (tMakeS cA sp EE tr) := by
  constructor
  intro pins s σ H Q I h
  refine wpAny_Call_Name_kw (ld_glob I hg hm (PySem.W.callWith_K (h₀ := X.base) I.ok.mod.kin M.kp ?_ t1 t2) nd)
  exact thn (ha.run p2 pins s σ H _ I h) fun us s1 ⟨vs, H1, I1, r, q⟩ => ⟨I1.kIn, mkS_run M F rm bi (out σ) I1 r q⟩
def tMethX (C : Addr) (m : Str) (sp : Sp) (E : St → XK) (ta : TE) (t : TA) : TE := fun σ H Q => ta σ H fun x H1 => ∃ a dx fs, x = .ref a ∧ H1 a = some (.ins C dx fs) ∧ fs.lookup m = none ∧
  t σ H1 fun vs H2 => sp (x :: vs) H2 Q (E σ)
theorem pe_methX {EE : St → XK} {pl : Sem Bool} (ho : PE X oe to') (c : Cls X.K cA) (hm : Meth X.K cA mm fa)
    (F : FnOk X.prog X.w X.K X.mg X.base CX lv fa fd pn sp) (rm : Room lv X.A) (bi : Binds X.K fd pn [])
    (out : ∀ σ, PassesAt CX X σ (EE σ)) (ha : PA X (e1 :: er) tr)
    (t1 : starEach (e1 :: er) X.env = (false, eval e1 X.env) :: starEach er X.env := by rfl)
    (t2 : (backTo p2 (starEach er X.env)).any (·.1) = false := by rfl)
    (ev : eval (.Call (.Attribute oe mm p3) (e1 :: er) [] p2) X.env = (do
      let ov ← eval oe X.env
      standAt p3.atName
      let (f, first) ← holding [ov] (getMethod ov mm pl)
      callWith p2 f first (backTo p2 (starEach (e1 :: er) X.env)) (backToKw p2 (keywordEach [] X.env))) := by rfl) :
    PE X (.Call (.Attribute oe mm p3) (e1 :: er) [] p2) (tMethX cA mm sp EE to' tr) := by
  constructor
  intro pins s σ H Q I h
  refine PySem.W.methodCall_KW (pl := pl) (thn (ho.run pins s σ H _ I h) fun u s1 got => ?_) ev
  obtain ⟨x, H1, I1, rx, a, dx, fs, rfl, ea, l, q⟩ := got
  cases (show u = Value.ref a from rx)
  refine getmeth_ok I1 ea c hm l (PySem.W.callWith_K (first := [.ref a]) (h₀ := X.base) I.ok.mod.kin hm.kp ?_ t1 t2)
  exact thn (ha.run p2 pins s1 σ H1 _ I1 q) fun us s2 ⟨vs, H2, I2, r, q2⟩ => ⟨I2.kIn, run_fnS (us := .ref a :: us) (vs := .ref a :: vs) F rm bi (out σ) I2 (.cons rfl r) q2⟩
end
end L2

set_option Elab.async false
set_option linter.all false
set_option maxRecDepth 100000
namespace L2
open PySem PySem.Spec PySem.Calls PyProof.Rows
/-! an own object without a == of its own, against an integer -/
theorem int_eq_declines_ins (b : Int) (u : Tok) (a C dx : Addr) :
    Meets (Builtin.«int.__eq__» ⟨[.int b u, .ref a], []⟩) (fun _ R s => s.heap.get? a = some (PySem.W.instObj C dx) ∧ R (.ok (.ret .notImplemented)) s) :=
  .of_wp fun prog w A R s h => by
    obtain ⟨hp, g, d, tk, os⟩ := s
    obtain ⟨hl, h⟩ := h
    unfold PySem.W.instObj at hl
    wp_walk using wpAny_loadPart' hl, wpAny_load hl
    exact ⟨_, rfl, h⟩
section
variable {prog : Program} {w : World} {A : Around} {E : Value → Shared → Prop} {s : Shared} {K : PySem.W.Frag} {x C dx : Addr} {od : Option Obj}
theorem ifBound_B {name : Str} {id : String} {args : List Value} {Q : Option Value → Shared → Prop} (X : K.In s.heap) (I : PySem.W.InstAt s.heap x (PySem.W.instObj C dx) C od)
    (hs : PySem.W.findIn K (.ref C) name = some (some (.builtin id))) (hb : ∀ self, bindSpecial (.builtin id) self = pure (.builtin id, [self]))
    (h : wpAny (model prog w) A (call (.builtin id) (.ref x :: args)) (fun v => Q (some v)) E s) : wpAny (model prog w) A (callSpecialIfBound? (.ref x) name args) Q E s := by
  simp only [callSpecialIfBound?, bindSpecialIfBound?]
  refine wpAny_holding (wpAny_bind (wpAny_bind (wpAny_bind (I.type.here ((PySem.W.looks_findIn X hs).here ?_)))))
  simp only [hb]
  refine wpAny_bind (wpAny_askSetting (wpAny_ite ?_))
  have fin : wpAny (model prog w) A (call (.builtin id) ([.ref x] ++ args) >>= fun v => pure (some v)) Q E s := wpAny_bind (wpAny_mono h (fun v s' h' => wpAny_pure h') fun _ _ h' => h')
  split
  · exact wpAny_bind (wpAny_pure (by exact wpAny_pure fin))
  · exact wpAny_tryCatch (wpAny_bind (wpAny_pure (by exact wpAny_pure fin)))
theorem call_objEq_int {n : Int} {t : Tok} {Q : Value → Shared → Prop} (X : K.In s.heap) (I : PySem.W.InstAt s.heap x (PySem.W.instObj C dx) C od)
    (ho : PySem.W.mroIn K C (.type "object") = some true) (hq : Q .notImplemented s) :
    wpAny (model prog w) A (call (.builtin "object.__eq__") [.ref x, .int n t]) Q E s := by
  refine wpAny_call (codeAny_call_builtin F.cmp_object.eq.plain F.cmpEntry_eq ?_)
  simp only [checkBuiltinCall, F.cmpKind_eq, F.cmpSplit_eq]
  refine wpAny_bind ?_
  unfold isInstance
  refine wpAny_bind (I.type.here ((PySem.W.looks_subIn (t := .ref C) X ho).here ?_))
  have body : wpAny (model prog w) A.in1 (Builtin.«object.__eq__» ⟨[.ref x, .int n t], []⟩) (fun fin s' => fin = .done (.ret .notImplemented) ∧ s' = s) E s := by
    unfold Builtin.«object.__eq__»
    have q : isSame (.ref x) (.int n t) = pure false := rfl
    repeat (first | rw [q] | wp_step)
    exact ⟨rfl, rfl⟩
  have fin : wpAny (model prog w) A.in1 (Builtin.«object.__eq__» ⟨[.ref x, .int n t], []⟩) (fun fin s' => match fin with
      | .done f => (match (Except.ok f : Result) with | .ok (.ret v) => Q v s' | .ok _ => False | .error e => E e s')
      | .again c' => c'.quiet = true ∧ codeAny (model prog w) A c' (fun r s' => match r with | .ok (.ret v) => Q v s' | .ok _ => False | .error e => E e s') s') (fun e s' => E e s') s :=
    wpAny_mono body (fun f s' h => by obtain ⟨rfl, rfl⟩ := h; exact hq) (fun _ _ e => e)
  cases hsig : Manifest.signature? "object.__eq__" with
  | none => exact wpAny_pure fin
  | some sig =>
    have ha := F.cmpArgs_eq (.ref x) (.int n t)
    simp only [argsOk, hsig] at ha
    have h2 : Bind.checkArgs "object.__eq__" sig ⟨[.ref x, .int n t], []⟩ = pure () := ha
    show wpAny (model prog w) A.in1 (Bind.checkArgs "object.__eq__" sig ⟨[.ref x, .int n t], []⟩) _ _ s
    rw [h2]
    exact wpAny_pure fin
theorem richCompare_inst_int {n : Int} {t : Tok} {Q : Value → Shared → Prop} (hu : A.units < cLine) (X : K.In s.heap) (I : PySem.W.InstAt s.heap x (PySem.W.instObj C dx) C od)
    (hs : PySem.W.findIn K (.ref C) "__eq__" = some (some (.builtin "object.__eq__"))) (ho : PySem.W.mroIn K C (.type "object") = some true)
    (hn : PySem.W.subIn K (.type "int") (.ref C) = some false) (hq : Q (.bool false) s) : wpAny (model prog w) A (richCompare .Eq (.ref x) (.int n t)) Q E s := by
  unfold richCompare
  simp only [oneThing_ref]
  refine wpAny_holding (wpAny_bind (wpAny_cRoomFor hu ?_))
  refine wpAny_bind (I.type.here (wpAny_bind (wpAny_typeOf (typeIs_int s n t) ?_)))
  have e1 : (Value.ref C != Value.type "int") = true := by rfl
  simp only [e1, if_true]
  refine wpAny_bind ((PySem.W.looks_subIn X hn).here ?_)
  simp only [Bool.false_eq_true, if_false, Bool.not_false, if_true]
  refine wpAny_bind (m := tryCompare (.ref x) _ (.int n t)) ?_
  unfold tryCompare
  refine wpAny_bind (ifBound_B X I hs F.cmp_object.eq.bind (call_objEq_int X I ho ?_))
  refine wpAny_pure ?_
  refine wpAny_bind (m := tryCompare (.int n t) _ (.ref x)) (wpAny_tryCompare_declines (typeIs_int s n t) F.slot_int_eq_refl (call_meets F.slot_int_eq_refl (typeIs_int s n t) F.entry_int_eq (F.args_int_eq_2 _ _) (int_eq_declines_ins n t x C dx) ⟨I.at_, rfl, ?_⟩))
  exact wpAny_bind (wpAny_rule (wpAny_bind (wpAny_of_eq (rfl : isSame (.ref x) (.int n t) = pure false) (wpAny_pure hq))))
end
structure ClsEq (K : PySem.W.Frag) (C : Addr) : Prop where
  eq : PySem.W.findIn K (.ref C) "__eq__" = some (some (.builtin "object.__eq__"))
  ob : PySem.W.mroIn K C (.type "object") = some true
  nt : PySem.W.subIn K (.type "int") (.ref C) = some false
section
variable {X : Cx}
def rEqOI (C : Addr) : R2 := fun x y H Q => ∃ (a dx : Addr) (fs : List (Str × V)) (i : Int), x = .ref a ∧ y = .int i ∧ H a = some (.ins C dx fs) ∧ Q (.bl false) H
theorem op_eqOI {C : Addr} (q : ClsEq X.K C) (hu : X.A.units < cLine) : OpR X (compareOp .Eq) (rEqOI C) := by
  intro pins s σ H x y v u Q I rx ry h
  obtain ⟨a, dx, fs, i, rfl, rfl, ha, hq⟩ := h
  cases (show v = Value.ref a from rx)
  obtain ⟨t, rfl⟩ := ry
  obtain ⟨mA, J, _⟩ := ins_get I.hok ha
  obtain ⟨od, J, _⟩ := J.look
  exact richCompare_inst_int hu I.kIn J q.eq q.ob q.nt ⟨.bl false, H, I, rfl, hq⟩
/-! ### len(set(xs)) for any ints -/
def distinct (ns : List Int) : Nat := (firstMet (fun i => ns.getD i 0) ns.length).length
theorem distinct_nodup {ns : List Int} (h : ns.Nodup) : distinct ns = ns.length := by
  unfold distinct
  rw [firstMet_nodup ns h ns.length (Nat.le_refl _), List.take_length]
theorem distinct_two {x : Int} : distinct [x, x] = 1 := by
  simp [distinct, firstMet, step_dedup, List.range_succ]
def tLenSetD (K : PySem.W.Frag) (ta : TE) : TE := fun σ H Q => ta σ H fun x H1 => ∃ (l : Addr) (ns : List Int), x = V.ref l ∧ SqL K H1 l (ns.map V.int) ∧ ns.length < 64 ∧ Q (.int (distinct ns)) H1
theorem pe_lenSetD {a : Expr} {ta : TE} {p p2 q pos : Pos} (hc : X.calm = true) (hg : Gl X "len") (hm : X.mg "len" = none) (hg2 : Gl X "set") (hm2 : X.mg "set" = none) (ha : PE X a ta)
    (na : starEach [a] X.env = (false, eval a X.env) :: starEach [] X.env := by rfl) : PE X (.Call (.Name "len" p) [.Call (.Name "set" p2) [a] [] q] [] pos) (tLenSetD X.K ta) := by
  refine ⟨fun pins s σ H Q I h => ?_⟩
  refine Call_ (ld_blt I hg hm PySem.boot_len ?_)
  refine PyProof.Rows.callWith_builtin1 (PyProof.Rows.args_cons ?_ rfl) rfl rfl
  refine Call_ (ld_blt I hg2 hm2 PyProof.Rows.boot_set ?_)
  refine PyProof.Rows.callWith_type1 (PyProof.Rows.args_cons (thn (ha.run pins s σ H _ I h) fun v s1 ⟨x, H1, I1, r1, q1⟩ => PyProof.Rows.args_nil ?_) na) na rfl
  obtain ⟨l, ns, rfl, hq, h1, q1⟩ := q1
  cases r1
  obtain ⟨its, r, pl, hz⟩ := I1.list hq
  have hl : its.toArray.size = ns.length := by rw [List.size_toArray, ← r.length, List.length_map]
  refine call_set_list (I1.ok.hd hc) pl.isList (ns := ns) (by simpa using r.ints) (by unfold scanBound; omega) fun h' tk hS hk => ?_
  rw [hl] at hS
  refine PyProof.Rows.args_nil ?_
  obtain ⟨o, es, ep, t, ho, hex, hd, _, _, _, hf, hn⟩ := hS
  have I2 : Inv X pins σ H1 { s1 with heap := h', toks := tk } := I1.kept fun b o e => hk b o (Heap.lt_size e) e
  have dl : (firstMet (fun i => ns.getD i 0) ns.length).length < 64 := Nat.lt_of_le_of_lt (firstMet_length_le _ _) h1
  refine call_len_set ho hex hd hf (by rw [hn] <;> omega) ⟨.int (distinct ns), H1, I2.tok _, ⟨_, by rw [hn]; rfl⟩, q1⟩
end
theorem for_enum {K : PySem.W.Frag} {a : Addr} {xs : List V} {g : TG} {tb : TS} {D : Ends} {σ : St} {H : Hp} (Pv : Nat → St → Hp → Prop) (h0 : Pv 0 σ H) (hl : ∀ i σ H, i ≤ xs.length → Pv i σ H → SqL K H a xs)
    (hs : ∀ (i : Nat) x T σ H, xs[i]? = some x → Pv i σ H → H T = none → g (.ref T) σ (upd H T (.tup [.int i, x])) fun σ2 H2 => tb { D with nx := Pv (i + 1), ct := Pv (i + 1), bk := D.nx } σ2 H2) (hd : ∀ σ H, Pv xs.length σ H → D.nx σ H) :
    ∃ W : Nat → Nat → St → Hp → Prop, (∃ m, W 0 m σ H) ∧ ∀ i m σ H, W i m σ H →
      ((Ite K a).stop i H ∧ D.nx σ H) ∨ ((Ite K a).go i H ∧ ∃ N : St → Hp → Prop, (∀ σ' H', N σ' H' → ∃ m', m' < m ∧ W (i + 1) m' σ' H') ∧ ∀ x H', (Ite K a).yld i H x H' → g x σ H' fun σ2 H2 => tb { D with nx := N, ct := N, bk := D.nx } σ2 H2) := by
  refine ⟨fun i m σ H => m = xs.length - i ∧ i ≤ xs.length ∧ Pv i σ H, ⟨xs.length, by simp, Nat.zero_le _, h0⟩, ?_⟩
  rintro i m σ H ⟨rfl, hi, p⟩
  have q := hl i σ H hi p
  by_cases hlt : i < xs.length
  · refine .inr ⟨⟨xs, xs[i], q, by simp [hlt]⟩, Pv (i + 1), fun σ' H' p' => ⟨xs.length - (i + 1), by omega, rfl, hlt, p'⟩, fun x H' y => ?_⟩
    obtain ⟨T, v, rfl, n, rfl, y⟩ := y
    exact hs i v T σ H (y xs q) p n
  · have e : i = xs.length := by omega
    subst e
    exact .inl ⟨⟨xs, q, Nat.le_refl _⟩, hd σ H p⟩
end L2

set_option Elab.async false
set_option linter.all false
set_option maxRecDepth 100000
namespace Rd
open PySem PySem.Spec PyProof.Rows L2
variable {K : PySem.W.Frag} {σ : L2.St} {H : Hp} {D : Ends} {Q : VK} {ta tb te tc : TE} {t u c : TT} {ts tu : TS} {g : TG} {x y v : V} {vs : List V} {tr : TA} {a b : Option V} {r : L2.St}
theorem seq (h : ts { D with nx := tu D } σ H) : tSeq ts tu D σ H := h
theorem next (h : D.nx σ H) : tNext D σ H := h
theorem brk (h : D.bk σ H) : tBreak D σ H := h
theorem cont (h : D.ct σ H) : tCont D σ H := h
theorem asg (h : te σ H fun x H1 => g x σ H1 D.nx) : tAsg te g D σ H := h
theorem ret (h : te σ H D.rt) : tRet te D σ H := h
theorem retN (h : D.rt .non H) : tRetN D σ H := h
theorem drop (h : te σ H fun _ H1 => D.nx σ H1) : tDrop te D σ H := h
theorem ifs (h : c σ H fun b H1 => if b = true then ts D σ H1 else tu D σ H1) : tIfS c ts tu D σ H := h
theorem ife (h : t σ H fun b H1 => if b = true then ta σ H1 Q else tb σ H1 Q) : tIf t ta tb σ H Q := h
theorem test {Q : Bool → Hp → Prop} (h : te σ H fun x H1 => ∃ k, x = .bl k ∧ Q k H1) : tTest te σ H Q := h
theorem tb_ {Q : Bool → Hp → Prop} (h : te σ H fun x H1 => ∃ k, x = .bl k ∧ Q k H1) : tB te σ H Q := h
theorem bl {b : Bool} {Q : Bool → Hp → Prop} (h : Q b H) : ∃ k, V.bl b = .bl k ∧ Q k H := ⟨b, rfl, h⟩
theorem bl2 {b : Bool} {P : Bool → Prop} (h : P b) : ∃ k, V.bl b = .bl k ∧ P k := ⟨b, rfl, h⟩
theorem and_ {Q : Bool → Hp → Prop} (h : t σ H fun c H1 => if c = true then u σ H1 Q else Q false H1) : tAnd t u σ H Q := h
theorem or_ {Q : Bool → Hp → Prop} (h : t σ H fun c H1 => if c = true then Q true H1 else u σ H1 Q) : tOr t u σ H Q := h
theorem not_ {Q : Bool → Hp → Prop} (h : t σ H fun c H1 => Q (!c) H1) : tNot t σ H Q := h
theorem andV (h : ta σ H fun x H1 => ∃ c, x = .bl c ∧ if c = true then tb σ H1 Q else Q (.bl false) H1) : tAndV ta tb σ H Q := h
theorem orV (h : ta σ H fun x H1 => ∃ c, x = .bl c ∧ if c = true then Q (.bl true) H1 else tb σ H1 Q) : tOrV ta tb σ H Q := h
theorem notV (h : ta σ H fun x H1 => ∃ c, x = .bl c ∧ Q (.bl (!c)) H1) : tNotV ta σ H Q := h
theorem op {r : R2} (h : ta σ H fun x H1 => tb σ H1 fun y H2 => r x y H2 Q) : tOp r ta tb σ H Q := h
theorem un {r : V → Hp → VK → Prop} (h : ta σ H fun x H1 => r x H1 Q) : tUn r ta σ H Q := h
theorem I0 {f : Int → Int → V} {i j : Int} (h : Q (f i j) H) : rI0 f (.int i) (.int j) H Q := ⟨i, j, rfl, rfl, h⟩
theorem I {C : Int → Int → Prop} {f : Int → Int → V} {i j : Int} (c : C i j) (h : Q (f i j) H) : rI C f (.int i) (.int j) H Q := ⟨i, j, rfl, rfl, c, h⟩
theorem U {f : Int → V} {i : Int} (h : Q (f i) H) : rU f (.int i) H Q := ⟨i, rfl, h⟩
theorem ip {f : Int → Int → Int} {i j : Int} (h : Q (.int (f i j)) H) : ipI f (.int i) (.int j) H Q := ⟨i, j, rfl, rfl, h⟩
theorem eq (s : scal x y = true) (h : Q (.bl (decide (x = y))) H) : rEq x y H Q := ⟨s, h⟩
theorem ne (s : scal x y = true) (h : Q (.bl (!decide (x = y))) H) : rNe x y H Q := ⟨s, h⟩
theorem c_ (h : Q v H) : tC v σ H Q := h
theorem nil {Q : List V → Hp → Prop} (h : Q [] H) : tNil σ H Q := h
theorem cons {Q : List V → Hp → Prop} (h : ta σ H fun x H1 => tr σ H1 fun xs H2 => Q (x :: xs) H2) : tCons ta tr σ H Q := h
theorem tup (h : tr σ H fun xs H1 => xs.length ≤ sizeLine ∧ ∀ p, H1 p = none → Q (.ref p) (upd H1 p (.tup xs))) : tTup tr σ H Q := h
theorem lst (h : tr σ H fun xs H1 => xs.length ≤ sizeLine ∧ ∀ p, H1 p = none → Q (.ref p) (upd H1 p (.lst xs))) : tLst tr σ H Q := h
theorem newT {xs : List V} (s : xs.length ≤ sizeLine) (h : ∀ p, H p = none → Q (.ref p) (upd H p (.tup xs))) : xs.length ≤ sizeLine ∧ ∀ p, H p = none → Q (.ref p) (upd H p (.tup xs)) := ⟨s, h⟩
theorem newL {xs : List V} (s : xs.length ≤ sizeLine) (h : ∀ p, H p = none → Q (.ref p) (upd H p (.lst xs))) : xs.length ≤ sizeLine ∧ ∀ p, H p = none → Q (.ref p) (upd H p (.lst xs)) := ⟨s, h⟩
theorem szA {xs : List V} {A : Prop} (s : xs.length ≤ sizeLine) (h : A) : xs.length ≤ sizeLine ∧ A := ⟨s, h⟩
theorem call {sp : Sp} {dvs : List V} {E : XK} (h : tr σ H fun vs H1 => sp (vs ++ dvs) H1 Q E) : tCall sp dvs E tr σ H Q := h
theorem cb {f : List V → Hp → VK → Prop} (h : tr σ H fun vs H1 => f vs H1 Q) : tCB f tr σ H Q := h
theorem bm {T : String} {f : V → List V → Hp → VK → Prop} (h : te σ H fun x H1 => tyV K T x H1 ∧ tr σ H1 fun xs H2 => f x xs H2 Q) : tBM K T f te tr σ H Q := h
theorem bm0 {T : String} {f : V → List V → Hp → VK → Prop} (h : te σ H fun x H1 => tyV K T x H1 ∧ f x [] H1 Q) : tBM0 K T f te σ H Q := h
theorem tyL {p : Addr} {xs : List V} {A : Prop} (s : H p = some (.lst xs)) (h : A) : tyV K "list" (.ref p) H ∧ A := ⟨.inl ⟨rfl, _, SqL.of s⟩, h⟩
theorem tyLq {p : Addr} {xs : List V} {A : Prop} (s : SqL K H p xs) (h : A) : tyV K "list" (.ref p) H ∧ A := ⟨.inl ⟨rfl, _, s⟩, h⟩
theorem tyS {z : Str} {A : Prop} (h : A) : tyV K "str" (.str z) H ∧ A := ⟨rfl, h⟩
theorem app {l : Addr} {xs : List V} (h : H l = some (.lst xs)) (s : xs.length < sizeLine) (q : Q .non (upd H l (.lst (xs ++ [y])))) : rAppend (.ref l) [y] H Q := ⟨l, xs, y, rfl, rfl, h, s, q⟩
theorem sl {f : V → Option Int → Option Int → Hp → VK → Prop} {tl th : TO} (h : te σ H fun x H1 => tl σ H1 fun l H2 => th σ H2 fun u H3 => f x l u H3 Q) : L2.tSl f te tl th σ H Q := h
theorem nopart {Q : Option Int → Hp → Prop} (h : Q none H) : tNoPart σ H Q := h
theorem part {Q : Option Int → Hp → Prop} (h : te σ H fun x H1 => ∃ i, x = .int i ∧ Q (some i) H1) : tPart te σ H Q := h
theorem int1 {i : Int} {P : Int → Prop} (h : P i) : ∃ j, V.int i = .int j ∧ P j := ⟨i, rfl, h⟩
theorem ints1 {i : Int} {P : Int → Prop} (h : P i) : ∃ j, [V.int i] = [.int j] ∧ P j := ⟨i, rfl, h⟩
theorem ints2 {i j : Int} {P : Int → Int → Prop} (h : P i j) : ∃ a b, [V.int i, V.int j] = [.int a, .int b] ∧ P a b := ⟨i, j, rfl, h⟩
theorem ixLq {p : Addr} {xs : List V} {i : Int} (h : SqL K H p xs) (e : atI xs i = some v) (q : Q v H) : rIxL K (.ref p) (.int i) H Q := ⟨p, xs, i, v, rfl, rfl, h, e, q⟩
theorem ixL {p : Addr} {xs : List V} {i : Int} (h : H p = some (.lst xs)) (e : atI xs i = some v) (q : Q v H) : rIxL K (.ref p) (.int i) H Q := ⟨p, xs, i, v, rfl, rfl, SqL.of h, e, q⟩
theorem ixT {p : Addr} {xs : List V} {i : Int} (h : H p = some (.tup xs)) (e : atI xs i = some v) (q : Q v H) : rIxT K (.ref p) (.int i) H Q := ⟨p, xs, i, v, rfl, rfl, SqT.of h, e, q⟩
theorem ixTq {p : Addr} {xs : List V} {i : Int} (h : SqT K H p xs) (e : atI xs i = some v) (q : Q v H) : rIxT K (.ref p) (.int i) H Q := ⟨p, xs, i, v, rfl, rfl, h, e, q⟩
theorem gtup {p : Addr} {xs : List V} {n : Nat} {f : TGs} {Q : L2.St → Hp → Prop} (h : H p = some (.tup xs)) (l : xs.length = n) (q : f xs σ H Q) : gTup K n f (.ref p) σ H Q := ⟨p, xs, rfl, SqT.of h, l, q⟩
theorem gtupq {p : Addr} {xs : List V} {n : Nat} {f : TGs} {Q : L2.St → Hp → Prop} (h : SqT K H p xs) (l : xs.length = n) (q : f xs σ H Q) : gTup K n f (.ref p) σ H Q := ⟨p, xs, rfl, h, l, q⟩
theorem yes {Q : Bool → Hp → Prop} (h : Q true H) : tYes σ H Q := h
theorem gcons {f : TGs} {Q : L2.St → Hp → Prop} (q : g v σ H fun σ' H' => f vs σ' H' Q) : gCons g f (v :: vs) σ H Q := ⟨v, vs, rfl, q⟩
theorem gnil {Q : L2.St → Hp → Prop} (q : Q σ H) : gNil [] σ H Q := ⟨rfl, q⟩
theorem sub {to ti : TE} {f : TSet} {Q : L2.St → Hp → Prop} (h : to σ H fun o H1 => ti σ H1 fun i H2 => f o i v H2 fun H3 => Q σ H3) : gSub to ti f v σ H Q := h
theorem setL {l : Addr} {xs : List V} {j : Nat} {i : Int} {Q : Hp → Prop} (h : H l = some (.lst xs)) (e : ixN xs.length i = some j) (q : Q (upd H l (.lst (xs.set j v)))) : rSetL (.ref l) (.int i) v H Q := ⟨l, xs, i, j, rfl, rfl, h, e, q⟩
theorem isN (h : ta σ H fun x H1 => Q (.bl (decide (x = .non))) H1) : tIsN ta σ H Q := h
theorem rf {α : Type} {a : α} {A : Prop} (h : A) : a = a ∧ A := ⟨rfl, h⟩
theorem sz {n : Nat} (h : n ≤ 100000) : n ≤ sizeLine := Nat.le_trans h (by decide)
theorem szl {n : Nat} (h : n < 100000) : n < sizeLine := Nat.lt_of_lt_of_le h (by decide)
theorem chain {r r' : R2} (h : ta σ H fun x H1 => tb σ H1 fun y H2 => r x y H2 fun z H3 => ∃ k, z = .bl k ∧ if k = true then tc σ H3 fun w H4 => r' y w H4 Q else Q (.bl false) H3) : tChain r r' ta tb tc σ H Q := h

theorem v0 (h : Q v H) : tVar 0 (some v :: r) H Q := ⟨v, rfl, h⟩
theorem n0 {Q : L2.St → Hp → Prop} (h : Q (some v :: r) H) : gName 0 v (a :: r) H Q := h
theorem g0 {ti : TIp} (h : te (some x :: r) H fun y H1 => ti x y H1 fun z H2 => D.nx (some z :: r) H2) : tAug 0 te ti D (some x :: r) H := ⟨x, rfl, h⟩
theorem v1 {a0 : Option V} (h : Q v H) : tVar 1 (a0 :: some v :: r) H Q := ⟨v, rfl, h⟩
theorem n1 {a0 : Option V} {Q : L2.St → Hp → Prop} (h : Q (a0 :: some v :: r) H) : gName 1 v (a0 :: a :: r) H Q := h
theorem g1 {a0 : Option V} {ti : TIp} (h : te (a0 :: some x :: r) H fun y H1 => ti x y H1 fun z H2 => D.nx (a0 :: some z :: r) H2) : tAug 1 te ti D (a0 :: some x :: r) H := ⟨x, rfl, h⟩
theorem v2 {a0 a1 : Option V} (h : Q v H) : tVar 2 (a0 :: a1 :: some v :: r) H Q := ⟨v, rfl, h⟩
theorem n2 {a0 a1 : Option V} {Q : L2.St → Hp → Prop} (h : Q (a0 :: a1 :: some v :: r) H) : gName 2 v (a0 :: a1 :: a :: r) H Q := h
theorem g2 {a0 a1 : Option V} {ti : TIp} (h : te (a0 :: a1 :: some x :: r) H fun y H1 => ti x y H1 fun z H2 => D.nx (a0 :: a1 :: some z :: r) H2) : tAug 2 te ti D (a0 :: a1 :: some x :: r) H := ⟨x, rfl, h⟩
theorem v3 {a0 a1 a2 : Option V} (h : Q v H) : tVar 3 (a0 :: a1 :: a2 :: some v :: r) H Q := ⟨v, rfl, h⟩
theorem n3 {a0 a1 a2 : Option V} {Q : L2.St → Hp → Prop} (h : Q (a0 :: a1 :: a2 :: some v :: r) H) : gName 3 v (a0 :: a1 :: a2 :: a :: r) H Q := h
theorem g3 {a0 a1 a2 : Option V} {ti : TIp} (h : te (a0 :: a1 :: a2 :: some x :: r) H fun y H1 => ti x y H1 fun z H2 => D.nx (a0 :: a1 :: a2 :: some z :: r) H2) : tAug 3 te ti D (a0 :: a1 :: a2 :: some x :: r) H := ⟨x, rfl, h⟩
theorem v4 {a0 a1 a2 a3 : Option V} (h : Q v H) : tVar 4 (a0 :: a1 :: a2 :: a3 :: some v :: r) H Q := ⟨v, rfl, h⟩
theorem n4 {a0 a1 a2 a3 : Option V} {Q : L2.St → Hp → Prop} (h : Q (a0 :: a1 :: a2 :: a3 :: some v :: r) H) : gName 4 v (a0 :: a1 :: a2 :: a3 :: a :: r) H Q := h
theorem g4 {a0 a1 a2 a3 : Option V} {ti : TIp} (h : te (a0 :: a1 :: a2 :: a3 :: some x :: r) H fun y H1 => ti x y H1 fun z H2 => D.nx (a0 :: a1 :: a2 :: a3 :: some z :: r) H2) : tAug 4 te ti D (a0 :: a1 :: a2 :: a3 :: some x :: r) H := ⟨x, rfl, h⟩
theorem v5 {a0 a1 a2 a3 a4 : Option V} (h : Q v H) : tVar 5 (a0 :: a1 :: a2 :: a3 :: a4 :: some v :: r) H Q := ⟨v, rfl, h⟩
theorem n5 {a0 a1 a2 a3 a4 : Option V} {Q : L2.St → Hp → Prop} (h : Q (a0 :: a1 :: a2 :: a3 :: a4 :: some v :: r) H) : gName 5 v (a0 :: a1 :: a2 :: a3 :: a4 :: a :: r) H Q := h
theorem g5 {a0 a1 a2 a3 a4 : Option V} {ti : TIp} (h : te (a0 :: a1 :: a2 :: a3 :: a4 :: some x :: r) H fun y H1 => ti x y H1 fun z H2 => D.nx (a0 :: a1 :: a2 :: a3 :: a4 :: some z :: r) H2) : tAug 5 te ti D (a0 :: a1 :: a2 :: a3 :: a4 :: some x :: r) H := ⟨x, rfl, h⟩
theorem v6 {a0 a1 a2 a3 a4 a5 : Option V} (h : Q v H) : tVar 6 (a0 :: a1 :: a2 :: a3 :: a4 :: a5 :: some v :: r) H Q := ⟨v, rfl, h⟩
theorem n6 {a0 a1 a2 a3 a4 a5 : Option V} {Q : L2.St → Hp → Prop} (h : Q (a0 :: a1 :: a2 :: a3 :: a4 :: a5 :: some v :: r) H) : gName 6 v (a0 :: a1 :: a2 :: a3 :: a4 :: a5 :: a :: r) H Q := h
theorem g6 {a0 a1 a2 a3 a4 a5 : Option V} {ti : TIp} (h : te (a0 :: a1 :: a2 :: a3 :: a4 :: a5 :: some x :: r) H fun y H1 => ti x y H1 fun z H2 => D.nx (a0 :: a1 :: a2 :: a3 :: a4 :: a5 :: some z :: r) H2) : tAug 6 te ti D (a0 :: a1 :: a2 :: a3 :: a4 :: a5 :: some x :: r) H := ⟨x, rfl, h⟩
theorem v7 {a0 a1 a2 a3 a4 a5 a6 : Option V} (h : Q v H) : tVar 7 (a0 :: a1 :: a2 :: a3 :: a4 :: a5 :: a6 :: some v :: r) H Q := ⟨v, rfl, h⟩
theorem n7 {a0 a1 a2 a3 a4 a5 a6 : Option V} {Q : L2.St → Hp → Prop} (h : Q (a0 :: a1 :: a2 :: a3 :: a4 :: a5 :: a6 :: some v :: r) H) : gName 7 v (a0 :: a1 :: a2 :: a3 :: a4 :: a5 :: a6 :: a :: r) H Q := h
theorem g7 {a0 a1 a2 a3 a4 a5 a6 : Option V} {ti : TIp} (h : te (a0 :: a1 :: a2 :: a3 :: a4 :: a5 :: a6 :: some x :: r) H fun y H1 => ti x y H1 fun z H2 => D.nx (a0 :: a1 :: a2 :: a3 :: a4 :: a5 :: a6 :: some z :: r) H2) : tAug 7 te ti D (a0 :: a1 :: a2 :: a3 :: a4 :: a5 :: a6 :: some x :: r) H := ⟨x, rfl, h⟩
theorem v8 {a0 a1 a2 a3 a4 a5 a6 a7 : Option V} (h : Q v H) : tVar 8 (a0 :: a1 :: a2 :: a3 :: a4 :: a5 :: a6 :: a7 :: some v :: r) H Q := ⟨v, rfl, h⟩
theorem n8 {a0 a1 a2 a3 a4 a5 a6 a7 : Option V} {Q : L2.St → Hp → Prop} (h : Q (a0 :: a1 :: a2 :: a3 :: a4 :: a5 :: a6 :: a7 :: some v :: r) H) : gName 8 v (a0 :: a1 :: a2 :: a3 :: a4 :: a5 :: a6 :: a7 :: a :: r) H Q := h
theorem g8 {a0 a1 a2 a3 a4 a5 a6 a7 : Option V} {ti : TIp} (h : te (a0 :: a1 :: a2 :: a3 :: a4 :: a5 :: a6 :: a7 :: some x :: r) H fun y H1 => ti x y H1 fun z H2 => D.nx (a0 :: a1 :: a2 :: a3 :: a4 :: a5 :: a6 :: a7 :: some z :: r) H2) : tAug 8 te ti D (a0 :: a1 :: a2 :: a3 :: a4 :: a5 :: a6 :: a7 :: some x :: r) H := ⟨x, rfl, h⟩
theorem v9 {a0 a1 a2 a3 a4 a5 a6 a7 a8 : Option V} (h : Q v H) : tVar 9 (a0 :: a1 :: a2 :: a3 :: a4 :: a5 :: a6 :: a7 :: a8 :: some v :: r) H Q := ⟨v, rfl, h⟩
theorem n9 {a0 a1 a2 a3 a4 a5 a6 a7 a8 : Option V} {Q : L2.St → Hp → Prop} (h : Q (a0 :: a1 :: a2 :: a3 :: a4 :: a5 :: a6 :: a7 :: a8 :: some v :: r) H) : gName 9 v (a0 :: a1 :: a2 :: a3 :: a4 :: a5 :: a6 :: a7 :: a8 :: a :: r) H Q := h
theorem g9 {a0 a1 a2 a3 a4 a5 a6 a7 a8 : Option V} {ti : TIp} (h : te (a0 :: a1 :: a2 :: a3 :: a4 :: a5 :: a6 :: a7 :: a8 :: some x :: r) H fun y H1 => ti x y H1 fun z H2 => D.nx (a0 :: a1 :: a2 :: a3 :: a4 :: a5 :: a6 :: a7 :: a8 :: some z :: r) H2) : tAug 9 te ti D (a0 :: a1 :: a2 :: a3 :: a4 :: a5 :: a6 :: a7 :: a8 :: some x :: r) H := ⟨x, rfl, h⟩
theorem v10 {a0 a1 a2 a3 a4 a5 a6 a7 a8 a9 : Option V} (h : Q v H) : tVar 10 (a0 :: a1 :: a2 :: a3 :: a4 :: a5 :: a6 :: a7 :: a8 :: a9 :: some v :: r) H Q := ⟨v, rfl, h⟩
theorem n10 {a0 a1 a2 a3 a4 a5 a6 a7 a8 a9 : Option V} {Q : L2.St → Hp → Prop} (h : Q (a0 :: a1 :: a2 :: a3 :: a4 :: a5 :: a6 :: a7 :: a8 :: a9 :: some v :: r) H) : gName 10 v (a0 :: a1 :: a2 :: a3 :: a4 :: a5 :: a6 :: a7 :: a8 :: a9 :: a :: r) H Q := h
theorem g10 {a0 a1 a2 a3 a4 a5 a6 a7 a8 a9 : Option V} {ti : TIp} (h : te (a0 :: a1 :: a2 :: a3 :: a4 :: a5 :: a6 :: a7 :: a8 :: a9 :: some x :: r) H fun y H1 => ti x y H1 fun z H2 => D.nx (a0 :: a1 :: a2 :: a3 :: a4 :: a5 :: a6 :: a7 :: a8 :: a9 :: some z :: r) H2) : tAug 10 te ti D (a0 :: a1 :: a2 :: a3 :: a4 :: a5 :: a6 :: a7 :: a8 :: a9 :: some x :: r) H := ⟨x, rfl, h⟩
theorem v11 {a0 a1 a2 a3 a4 a5 a6 a7 a8 a9 a10 : Option V} (h : Q v H) : tVar 11 (a0 :: a1 :: a2 :: a3 :: a4 :: a5 :: a6 :: a7 :: a8 :: a9 :: a10 :: some v :: r) H Q := ⟨v, rfl, h⟩
theorem n11 {a0 a1 a2 a3 a4 a5 a6 a7 a8 a9 a10 : Option V} {Q : L2.St → Hp → Prop} (h : Q (a0 :: a1 :: a2 :: a3 :: a4 :: a5 :: a6 :: a7 :: a8 :: a9 :: a10 :: some v :: r) H) : gName 11 v (a0 :: a1 :: a2 :: a3 :: a4 :: a5 :: a6 :: a7 :: a8 :: a9 :: a10 :: a :: r) H Q := h
theorem g11 {a0 a1 a2 a3 a4 a5 a6 a7 a8 a9 a10 : Option V} {ti : TIp} (h : te (a0 :: a1 :: a2 :: a3 :: a4 :: a5 :: a6 :: a7 :: a8 :: a9 :: a10 :: some x :: r) H fun y H1 => ti x y H1 fun z H2 => D.nx (a0 :: a1 :: a2 :: a3 :: a4 :: a5 :: a6 :: a7 :: a8 :: a9 :: a10 :: some z :: r) H2) : tAug 11 te ti D (a0 :: a1 :: a2 :: a3 :: a4 :: a5 :: a6 :: a7 :: a8 :: a9 :: a10 :: some x :: r) H := ⟨x, rfl, h⟩
theorem v12 {a0 a1 a2 a3 a4 a5 a6 a7 a8 a9 a10 a11 : Option V} (h : Q v H) : tVar 12 (a0 :: a1 :: a2 :: a3 :: a4 :: a5 :: a6 :: a7 :: a8 :: a9 :: a10 :: a11 :: some v :: r) H Q := ⟨v, rfl, h⟩
theorem n12 {a0 a1 a2 a3 a4 a5 a6 a7 a8 a9 a10 a11 : Option V} {Q : L2.St → Hp → Prop} (h : Q (a0 :: a1 :: a2 :: a3 :: a4 :: a5 :: a6 :: a7 :: a8 :: a9 :: a10 :: a11 :: some v :: r) H) : gName 12 v (a0 :: a1 :: a2 :: a3 :: a4 :: a5 :: a6 :: a7 :: a8 :: a9 :: a10 :: a11 :: a :: r) H Q := h
theorem g12 {a0 a1 a2 a3 a4 a5 a6 a7 a8 a9 a10 a11 : Option V} {ti : TIp} (h : te (a0 :: a1 :: a2 :: a3 :: a4 :: a5 :: a6 :: a7 :: a8 :: a9 :: a10 :: a11 :: some x :: r) H fun y H1 => ti x y H1 fun z H2 => D.nx (a0 :: a1 :: a2 :: a3 :: a4 :: a5 :: a6 :: a7 :: a8 :: a9 :: a10 :: a11 :: some z :: r) H2) : tAug 12 te ti D (a0 :: a1 :: a2 :: a3 :: a4 :: a5 :: a6 :: a7 :: a8 :: a9 :: a10 :: a11 :: some x :: r) H := ⟨x, rfl, h⟩
theorem v13 {a0 a1 a2 a3 a4 a5 a6 a7 a8 a9 a10 a11 a12 : Option V} (h : Q v H) : tVar 13 (a0 :: a1 :: a2 :: a3 :: a4 :: a5 :: a6 :: a7 :: a8 :: a9 :: a10 :: a11 :: a12 :: some v :: r) H Q := ⟨v, rfl, h⟩
theorem n13 {a0 a1 a2 a3 a4 a5 a6 a7 a8 a9 a10 a11 a12 : Option V} {Q : L2.St → Hp → Prop} (h : Q (a0 :: a1 :: a2 :: a3 :: a4 :: a5 :: a6 :: a7 :: a8 :: a9 :: a10 :: a11 :: a12 :: some v :: r) H) : gName 13 v (a0 :: a1 :: a2 :: a3 :: a4 :: a5 :: a6 :: a7 :: a8 :: a9 :: a10 :: a11 :: a12 :: a :: r) H Q := h
theorem g13 {a0 a1 a2 a3 a4 a5 a6 a7 a8 a9 a10 a11 a12 : Option V} {ti : TIp} (h : te (a0 :: a1 :: a2 :: a3 :: a4 :: a5 :: a6 :: a7 :: a8 :: a9 :: a10 :: a11 :: a12 :: some x :: r) H fun y H1 => ti x y H1 fun z H2 => D.nx (a0 :: a1 :: a2 :: a3 :: a4 :: a5 :: a6 :: a7 :: a8 :: a9 :: a10 :: a11 :: a12 :: some z :: r) H2) : tAug 13 te ti D (a0 :: a1 :: a2 :: a3 :: a4 :: a5 :: a6 :: a7 :: a8 :: a9 :: a10 :: a11 :: a12 :: some x :: r) H := ⟨x, rfl, h⟩
theorem v14 {a0 a1 a2 a3 a4 a5 a6 a7 a8 a9 a10 a11 a12 a13 : Option V} (h : Q v H) : tVar 14 (a0 :: a1 :: a2 :: a3 :: a4 :: a5 :: a6 :: a7 :: a8 :: a9 :: a10 :: a11 :: a12 :: a13 :: some v :: r) H Q := ⟨v, rfl, h⟩
theorem n14 {a0 a1 a2 a3 a4 a5 a6 a7 a8 a9 a10 a11 a12 a13 : Option V} {Q : L2.St → Hp → Prop} (h : Q (a0 :: a1 :: a2 :: a3 :: a4 :: a5 :: a6 :: a7 :: a8 :: a9 :: a10 :: a11 :: a12 :: a13 :: some v :: r) H) : gName 14 v (a0 :: a1 :: a2 :: a3 :: a4 :: a5 :: a6 :: a7 :: a8 :: a9 :: a10 :: a11 :: a12 :: a13 :: a :: r) H Q := h
theorem g14 {a0 a1 a2 a3 a4 a5 a6 a7 a8 a9 a10 a11 a12 a13 : Option V} {ti : TIp} (h : te (a0 :: a1 :: a2 :: a3 :: a4 :: a5 :: a6 :: a7 :: a8 :: a9 :: a10 :: a11 :: a12 :: a13 :: some x :: r) H fun y H1 => ti x y H1 fun z H2 => D.nx (a0 :: a1 :: a2 :: a3 :: a4 :: a5 :: a6 :: a7 :: a8 :: a9 :: a10 :: a11 :: a12 :: a13 :: some z :: r) H2) : tAug 14 te ti D (a0 :: a1 :: a2 :: a3 :: a4 :: a5 :: a6 :: a7 :: a8 :: a9 :: a10 :: a11 :: a12 :: a13 :: some x :: r) H := ⟨x, rfl, h⟩
theorem v15 {a0 a1 a2 a3 a4 a5 a6 a7 a8 a9 a10 a11 a12 a13 a14 : Option V} (h : Q v H) : tVar 15 (a0 :: a1 :: a2 :: a3 :: a4 :: a5 :: a6 :: a7 :: a8 :: a9 :: a10 :: a11 :: a12 :: a13 :: a14 :: some v :: r) H Q := ⟨v, rfl, h⟩
theorem n15 {a0 a1 a2 a3 a4 a5 a6 a7 a8 a9 a10 a11 a12 a13 a14 : Option V} {Q : L2.St → Hp → Prop} (h : Q (a0 :: a1 :: a2 :: a3 :: a4 :: a5 :: a6 :: a7 :: a8 :: a9 :: a10 :: a11 :: a12 :: a13 :: a14 :: some v :: r) H) : gName 15 v (a0 :: a1 :: a2 :: a3 :: a4 :: a5 :: a6 :: a7 :: a8 :: a9 :: a10 :: a11 :: a12 :: a13 :: a14 :: a :: r) H Q := h
theorem g15 {a0 a1 a2 a3 a4 a5 a6 a7 a8 a9 a10 a11 a12 a13 a14 : Option V} {ti : TIp} (h : te (a0 :: a1 :: a2 :: a3 :: a4 :: a5 :: a6 :: a7 :: a8 :: a9 :: a10 :: a11 :: a12 :: a13 :: a14 :: some x :: r) H fun y H1 => ti x y H1 fun z H2 => D.nx (a0 :: a1 :: a2 :: a3 :: a4 :: a5 :: a6 :: a7 :: a8 :: a9 :: a10 :: a11 :: a12 :: a13 :: a14 :: some z :: r) H2) : tAug 15 te ti D (a0 :: a1 :: a2 :: a3 :: a4 :: a5 :: a6 :: a7 :: a8 :: a9 :: a10 :: a11 :: a12 :: a13 :: a14 :: some x :: r) H := ⟨x, rfl, h⟩
theorem room65 {k : Nat} {A : Around} (r : Room k A) : A.units + 65 < cLine := by
  have := r.un
  omega
/-! ### iterators -/
def lcRest (g : TG) (tt : TT) (te : TE) (vs : List Nat) (σ : L2.St) (Q : VK) (J : It) (H1 : Hp) : Prop := ∀ D, H1 D = none → ∃ W : Nat → Nat → Hp → Prop, (∃ m, W 0 m (upd H1 D (.lst []))) ∧ ∀ i m H, W i m H →
  (J.stop i H ∧ Q (.ref D) H) ∨ (J.go i H ∧ ∃ Nx : Hp → Prop, (∀ H', Nx H' → ∃ m', m' < m ∧ W (i + 1) m' H') ∧ ∀ x H', J.yld i H x H' → g x (wipe σ vs) H' fun σ2 H2 => wipe σ2 vs = wipe σ vs ∧ tt σ2 H2 fun b H3 =>
    if b = true then te σ2 H3 fun y H4 => ∃ acc, H4 D = some (.lst acc) ∧ acc.length < sizeLine ∧ Nx (upd H4 D (.lst (acc ++ [y]))) else Nx H3)
theorem lc {wi : TI} {tt : TT} {ws : List Nat} (h : wi σ H (lcRest g tt te ws σ Q)) : tLc wi g tt te ws σ H Q := h
def forRest (g : TG) (tb : TS) (D : Ends) (σ0 : L2.St) (J : It) (H1 : Hp) : Prop := ∃ W : Nat → Nat → L2.St → Hp → Prop, (∃ m, W 0 m σ0 H1) ∧ ∀ i m σ H, W i m σ H →
  (J.stop i H ∧ D.nx σ H) ∨ (J.go i H ∧ ∃ N : L2.St → Hp → Prop, (∀ σ' H', N σ' H' → ∃ m', m' < m ∧ W (i + 1) m' σ' H') ∧ ∀ x H', J.yld i H x H' → g x σ H' fun σ2 H2 => tb { D with nx := N, ct := N, bk := D.nx } σ2 H2)
theorem for_ {wi : TI} {tb : TS} (h : wi σ H (forRest g tb D σ)) : tFor wi g tb D σ H := h
variable {R : It → Hp → Prop}
theorem ilist (h : te σ H fun x H1 => ∃ a, x = .ref a ∧ (∃ xs, SqL K H1 a xs) ∧ R (Itl K a) H1) : iList K te σ H R := h
theorem itup (h : te σ H fun x H1 => ∃ a, x = .ref a ∧ (∃ xs, SqT K H1 a xs) ∧ R (Itt K a) H1) : iTup K te σ H R := h
theorem irng1 (h : tr σ H fun vs H1 => ∃ j : Int, vs = [.int j] ∧ -(2 ^ 62) ≤ j ∧ j < 2 ^ 62 ∧ R (Itr 0 j.toNat) H1) : iRng1 tr σ H R := h
theorem irng2 (h : tr σ H fun vs H1 => ∃ i j : Int, vs = [.int i, .int j] ∧ (-(2 ^ 62) ≤ i ∧ i < 2 ^ 62 ∧ -(2 ^ 62) ≤ j ∧ j < 2 ^ 62) ∧ R (Itr i (j - i).toNat) H1) : iRng2 tr σ H R := h
theorem ienum (h : tr σ H fun vs H1 => ∃ a xs, vs = [.ref a] ∧ SqL K H1 a xs ∧ R (Ite K a) H1) : iEnum K tr σ H R := h
theorem istr (h : te σ H fun v H1 => ∃ x, v = .str x ∧ R (Its x) H1) : iStr te σ H R := h
theorem refA {a : Addr} {P : Addr → Prop} (h : P a) : ∃ b, V.ref a = .ref b ∧ P b := ⟨a, rfl, h⟩
theorem strA {a : Str} {P : Str → Prop} (h : P a) : ∃ b, V.str a = .str b ∧ P b := ⟨a, rfl, h⟩
theorem sqA {l : Addr} {xs : List V} {A : Prop} (h : H l = some (.lst xs)) (q : A) : (∃ xs, SqL K H l xs) ∧ A := ⟨⟨_, SqL.of h⟩, q⟩
theorem sqAq {l : Addr} {xs : List V} {A : Prop} (h : SqL K H l xs) (q : A) : (∃ xs, SqL K H l xs) ∧ A := ⟨⟨_, h⟩, q⟩
theorem stA {l : Addr} {xs : List V} {A : Prop} (h : H l = some (.tup xs)) (q : A) : (∃ xs, SqT K H l xs) ∧ A := ⟨⟨_, SqT.of h⟩, q⟩
theorem stAq {l : Addr} {xs : List V} {A : Prop} (h : SqT K H l xs) (q : A) : (∃ xs, SqT K H l xs) ∧ A := ⟨⟨_, h⟩, q⟩
theorem enA {l : Addr} {xs : List V} {P : Addr → Prop} (h : H l = some (.lst xs)) (q : P l) : ∃ a ys, [V.ref l] = [.ref a] ∧ SqL K H a ys ∧ P a := ⟨l, xs, rfl, SqL.of h, q⟩
theorem enAq {l : Addr} {xs : List V} {P : Addr → Prop} (h : SqL K H l xs) (q : P l) : ∃ a ys, [V.ref l] = [.ref a] ∧ SqL K H a ys ∧ P a := ⟨l, xs, rfl, h, q⟩
theorem lenL {l : Addr} {xs : List V} {P : List V → Prop} (h : H l = some (.lst xs)) (q : P xs) : ∃ p ys, [V.ref l] = [.ref p] ∧ (SqL K H p ys ∨ SqT K H p ys) ∧ P ys := ⟨l, xs, rfl, .inl (SqL.of h), q⟩
theorem lenLq {l : Addr} {xs : List V} {P : List V → Prop} (h : SqL K H l xs) (q : P xs) : ∃ p ys, [V.ref l] = [.ref p] ∧ (SqL K H p ys ∨ SqT K H p ys) ∧ P ys := ⟨l, xs, rfl, .inl h, q⟩
theorem lenTq {l : Addr} {xs : List V} {P : List V → Prop} (h : SqT K H l xs) (q : P xs) : ∃ p ys, [V.ref l] = [.ref p] ∧ (SqL K H p ys ∨ SqT K H p ys) ∧ P ys := ⟨l, xs, rfl, .inr h, q⟩
theorem lenT {l : Addr} {xs : List V} {P : List V → Prop} (h : H l = some (.tup xs)) (q : P xs) : ∃ p ys, [V.ref l] = [.ref p] ∧ (SqL K H p ys ∨ SqT K H p ys) ∧ P ys := ⟨l, xs, rfl, .inr (SqT.of h), q⟩
/-! ### comprehensions: each element by a relation -/
def But (D : Addr) (H H' : Hp) : Prop := ∀ b o, b ≠ D → H b = some o → H' b = some o
theorem But.refl {D : Addr} : But D H H := fun _ _ _ h => h
theorem But.trans {D : Addr} {H H1 H2 : Hp} (a : But D H H1) (b : But D H1 H2) : But D H H2 := fun x o n h => b x o n (a x o n h)
theorem But.same {D : Addr} {H H1 : Hp} (a : Same H H1) : But D H H1 := fun x o _ h => a x o h
theorem But.at_ {D : Addr} {o : HO} : But D H (upd H D o) := fun x u n h => by rw [upd_ne n]; exact h
theorem But.to {D : Addr} {H H1 : Hp} (a : But D H H1) (n : H D = none) : Same H H1 := fun x o h => a x o (fun z => by rw [z, n] at h; cases h) h
theorem lc_rel {J : It} {n : Nat} {G : Hp → Prop} {Y : Nat → Hp → V → Hp → Prop} (w : Walk J n G Y) {g : TG} {te : TE} {vs : List Nat} {σ : L2.St} {H1 : Hp} {D : Addr} {Qd : Hp → Prop} (R : Nat → V → Hp → Prop)
    (nD : H1 D = none) (hn : n ≤ 100000) (mono : ∀ i v H H', R i v H → But D H H' → R i v H') (hG : ∀ H, But D H1 H → G H)
    (hs : ∀ i x H H' (Kt : VK), i < n → But D H1 H → (∃ xs, H D = some (.lst xs)) → Y i H x H' → (∀ y H4, R i y H4 → Same H H4 → Kt y H4) → g x (wipe σ vs) H' fun σ2 H2 => wipe σ2 vs = wipe σ vs ∧ te σ2 H2 Kt)
    (hd : ∀ H ys, ys.length = n → (∀ i v, ys[i]? = some v → R i v H) → Same H1 H → H D = some (.lst ys) → Qd H) :
    ∃ W : Nat → Nat → Hp → Prop, (∃ m, W 0 m (upd H1 D (.lst []))) ∧ ∀ i m H, W i m H →
      (J.stop i H ∧ Qd H) ∨ (J.go i H ∧ ∃ Nx : Hp → Prop, (∀ H', Nx H' → ∃ m', m' < m ∧ W (i + 1) m' H') ∧ ∀ x H', J.yld i H x H' → g x (wipe σ vs) H' fun σ2 H2 => wipe σ2 vs = wipe σ vs ∧ tYes σ2 H2 fun b H3 =>
        if b = true then te σ2 H3 fun y H4 => ∃ acc, H4 D = some (.lst acc) ∧ acc.length < sizeLine ∧ Nx (upd H4 D (.lst (acc ++ [y]))) else Nx H3) := by
  refine lc_it w (fun i H => ∃ ys, ys.length = i ∧ (∀ i v, ys[i]? = some v → R i v H) ∧ But D H1 H ∧ H D = some (.lst ys)) ⟨[], rfl, fun i v h => by simp at h, But.at_, upd_same⟩ (fun i H _ h => ?_) (fun i x H H' hi h y => ?_) (fun H h => ?_)
  · obtain ⟨_, _, _, b, _⟩ := h
    exact hG H b
  · obtain ⟨ys, hl, hr, b, hD⟩ := h
    refine hs i x H H' _ hi b ⟨_, hD⟩ y fun v H4 r sm => ?_
    refine ⟨ys, sm _ _ hD, szl (by omega), ys ++ [v], by simp [hl], fun j u hj => ?_, (b.trans (But.same sm)).trans But.at_, upd_same⟩
    by_cases hj2 : j < ys.length
    · rw [List.getElem?_append_left hj2] at hj
      exact mono _ _ _ _ (hr j u hj) ((But.same sm).trans But.at_)
    · have e : j = ys.length := by
        have := (List.getElem?_eq_some_iff.mp hj).1
        simp at this; omega
      subst e
      rw [List.getElem?_append_right (Nat.le_refl _)] at hj
      simp at hj
      subst hj
      rw [hl]
      exact mono _ _ _ _ r But.at_
  · obtain ⟨ys, hl, hr, b, hD⟩ := h
    exact hd H ys hl hr (b.to nD) hD
/-! ### tests, ints in lists -/
theorem ifD {p : Prop} [Decidable p] {A B : Prop} (h1 : p → A) (h2 : ¬ p → B) : if decide p = true then A else B := by
  by_cases h : p
  · rw [decide_eq_true h, if_pos rfl]; exact h1 h
  · rw [decide_eq_false h, if_neg Bool.false_ne_true]; exact h2 h
theorem ifN {p : Prop} [Decidable p] {A B : Prop} (h1 : ¬ p → A) (h2 : p → B) : if (!decide p) = true then A else B := by
  by_cases h : p
  · rw [decide_eq_true h, if_neg (by decide)]; exact h2 h
  · rw [decide_eq_false h, if_pos (by decide)]; exact h1 h
theorem ifT {A B : Prop} (h : A) : if true = true then A else B := by rw [if_pos rfl]; exact h
theorem ifF {A B : Prop} (h : B) : if false = true then A else B := by rw [if_neg Bool.false_ne_true]; exact h
theorem ifB {b : Bool} {A B : Prop} (h1 : b = true → A) (h2 : b = false → B) : if b = true then A else B := by
  cases b with
  | true => exact ifT (h1 rfl)
  | false => exact ifF (h2 rfl)
theorem ifNB {b : Bool} {A B : Prop} (h1 : b = false → A) (h2 : b = true → B) : if (!b) = true then A else B := by
  cases b with
  | true => exact ifF (h2 rfl)
  | false => exact ifT (h1 rfl)
theorem flat_ints (ns : List Int) : (ns.map V.int).all flatV = true := by
  rw [List.all_eq_true]
  intro x hx
  obtain ⟨i, _, rfl⟩ := List.mem_map.mp hx
  rfl
theorem flat_strs (ns : List Str) : (ns.map V.str).all flatV = true := by
  rw [List.all_eq_true]
  intro x hx
  obtain ⟨i, _, rfl⟩ := List.mem_map.mp hx
  rfl
theorem eqV_ints (a b : Int) : eqV (.int a) (.int b) = decide (a = b) := by
  by_cases h : a = b <;> simp [eqV, h]
theorem inV_ints (x : Int) (r : List Int) : inV (.int x) (r.map V.int) = decide (x ∈ r) := by
  unfold inV
  rw [List.any_map]
  by_cases h : x ∈ r
  · rw [decide_eq_true h, List.any_eq_true]
    exact ⟨x, h, beq_self_eq_true x⟩
  · rw [decide_eq_false h, List.any_eq_false]
    intro y hy e
    have e2 : (y == x) = true := e
    exact h (by rw [← eq_of_beq e2]; exact hy)
theorem first_at (ns : List Int) (n : Int) (h : n ∈ ns) : ∃ j : Nat, ns[j]? = some n ∧ ∀ i, i < j → ns[i]? ≠ some n := by
  induction ns with
  | nil => simp at h
  | cons a r ih =>
    by_cases e : a = n
    · exact ⟨0, by simp [e], fun i hi => absurd hi (Nat.not_lt_zero _)⟩
    · obtain ⟨j, h1, h2⟩ := ih ((List.mem_cons.mp h).resolve_left fun z => e z.symm)
      refine ⟨j + 1, by simpa using h1, fun i hi => ?_⟩
      cases i with
      | zero => simp [e]
      | succ i => simpa using h2 i (by omega)
theorem inI {p : Addr} {ns : List Int} {n : Int} (h : H p = some (.lst (ns.map V.int))) (q : Q (.bl (decide (n ∈ ns))) H) : rIn K false (.int n) (.ref p) H Q :=
  ⟨p, _, rfl, .inl (SqL.of h), rfl, flat_ints _, by rw [inV_ints]; exact q⟩
theorem ninI {p : Addr} {ns : List Int} {n : Int} (h : H p = some (.lst (ns.map V.int))) (q : Q (.bl (!decide (n ∈ ns))) H) : rIn K true (.int n) (.ref p) H Q :=
  ⟨p, _, rfl, .inl (SqL.of h), rfl, flat_ints _, by rw [inV_ints]; exact q⟩
theorem idxI {a : Addr} {ns : List Int} {n : Int} {j : Nat} (h : H a = some (.lst (ns.map V.int))) (hj : ns[j]? = some n) (hf : ∀ i, i < j → ns[i]? ≠ some n) (q : Q (.int (j : Nat)) H) : rIndex K (.ref a) [.int n] H Q :=
  ⟨a, _, _, j, .int n, rfl, rfl, SqL.of h, rfl, flat_ints _, by rw [List.getElem?_map, hj]; rfl, by rw [eqV_ints, decide_eq_true rfl], fun m z' hm hz => by
    rw [List.getElem?_map] at hz
    cases e : ns[m]? with
    | none => rw [e] at hz; cases hz
    | some x =>
      rw [e] at hz; cases hz
      rw [eqV_ints]
      exact decide_eq_false fun e2 => hf m hm (by rw [e, e2]), q⟩
theorem vals_map {n : Nat} {ns : List V} (f : Nat → Int) (ln : ns.length = n) (hn : ∀ (i : Nat) v, ns[i]? = some v → v = .int (f i)) : ns = ((List.range n).map f).map V.int := by
  refine List.ext_getElem? fun i => ?_
  rw [List.map_map, List.getElem?_map]
  by_cases hi : i < n
  · obtain ⟨v, hv⟩ : ∃ v, ns[i]? = some v := ⟨_, List.getElem?_eq_getElem (by omega)⟩
    rw [hv, List.getElem?_range hi, hn i v hv]
    rfl
  · rw [List.getElem?_eq_none (by omega), List.getElem?_eq_none (by rw [List.length_range]; omega)]
    rfl
theorem at_int {ns : List Int} {i : Int} {j : Nat} {n : Int} (e : i = (j : Int)) (h : ns[j]? = some n) : atI (ns.map V.int) i = some (.int n) := by
  subst e
  exact atI_nat (by rw [List.getElem?_map, h]; rfl)
theorem at_val {xs : List V} {i : Int} {j : Nat} (e : i = (j : Int)) (h : xs[j]? = some v) : atI xs i = some v := by
  subst e
  exact atI_nat h
theorem zr {i : Nat} {H H' : Hp} (y : YFn (fun (i : Nat) => V.int ((0 : Int) + (i : Int))) i H x H') : x = .int (i : Int) ∧ H' = H := by
  obtain ⟨a, b⟩ := y
  exact ⟨by rw [b]; show V.int (0 + (i : Int)) = _; rw [Int.zero_add], a⟩
/-! ### new objects, by what they leave -/
def NewT (Q : VK) (xs : List V) (H : Hp) : Prop := xs.length ≤ sizeLine ∧ ∀ p, H p = none → Q (.ref p) (upd H p (.tup xs))
def NewL (Q : VK) (xs : List V) (H : Hp) : Prop := xs.length ≤ sizeLine ∧ ∀ p, H p = none → Q (.ref p) (upd H p (.lst xs))
theorem tupN (h : tr σ H (NewT Q)) : tTup tr σ H Q := h
theorem lstN (h : tr σ H (NewL Q)) : tLst tr σ H Q := h
theorem nwT {xs : List V} (s : xs.length ≤ sizeLine) (h : ∀ p H', H p = none → Same H H' → H' p = some (.tup xs) → Q (.ref p) H') : NewT Q xs H := ⟨s, fun p np => h p _ np (same_new np) upd_same⟩
theorem nwL {xs : List V} (s : xs.length ≤ sizeLine) (h : ∀ p H', H p = none → Same H H' → H' p = some (.lst xs) → Q (.ref p) H') : NewL Q xs H := ⟨s, fun p np => h p _ np (same_new np) upd_same⟩
def ListOf (K : PySem.W.Frag) (Q : VK) (vs : List V) (H : Hp) : Prop := ∃ p ys, vs = [.ref p] ∧ (SqL K H p ys ∨ SqT K H p ys) ∧ ∀ l, H l = none → Q (.ref l) (upd H l (.lst ys))
theorem cbListOf (h : tr σ H (ListOf K Q)) : tCB (fun xs H Q => ∃ p ys, xs = [.ref p] ∧ (SqL K H p ys ∨ SqT K H p ys) ∧ ∀ l, H l = none → Q (.ref l) (upd H l (.lst ys))) tr σ H Q := h
theorem listOfq {a : Addr} {ys : List V} (s : SqL K H a ys) (h : ∀ p H', H p = none → Same H H' → H' p = some (.lst ys) → Q (.ref p) H') : ListOf K Q [.ref a] H := ⟨a, ys, rfl, .inl s, fun p np => h p _ np (same_new np) upd_same⟩
theorem listOf {a : Addr} {ys : List V} (s : H a = some (.lst ys)) (h : ∀ p H', H p = none → Same H H' → H' p = some (.lst ys) → Q (.ref p) H') : ListOf K Q [.ref a] H := listOfq (SqL.of s) h
def SlL (K : PySem.W.Frag) (x : V) (lo hi : Option Int) (Q : VK) (H : Hp) : Prop := ∃ a xs, x = .ref a ∧ SqL K H a xs ∧ ∀ p, H p = none → Q (.ref p) (upd H p (.lst (cutV xs lo hi)))
theorem slN {tl th : TO} (h : te σ H fun x H1 => tl σ H1 fun l H2 => th σ H2 fun u H3 => SlL K x l u Q H3) : L2.tSl (rSlL K) te tl th σ H Q := h
theorem slq {a : Addr} {xs : List V} {lo hi : Option Int} (s : SqL K H a xs) (h : ∀ p H', H p = none → Same H H' → H' p = some (.lst (cutV xs lo hi)) → Q (.ref p) H') : SlL K (.ref a) lo hi Q H := ⟨a, xs, rfl, s, fun p np => h p _ np (same_new np) upd_same⟩
theorem slo {a : Addr} {xs : List V} {lo hi : Option Int} (s : H a = some (.lst xs)) (h : ∀ p H', H p = none → Same H H' → H' p = some (.lst (cutV xs lo hi)) → Q (.ref p) H') : SlL K (.ref a) lo hi Q H := slq (SqL.of s) h
def SrtI (K : PySem.W.Frag) (Q : VK) (vs : List V) (H : Hp) : Prop := rSortedI K vs H Q
theorem cbSrtI (h : tr σ H (SrtI K Q)) : tCB (rSortedI K) tr σ H Q := h
theorem srtI {a : Addr} {ns : List Int} (s : SqL K H a (ns.map V.int)) (h : ∀ (ns' : List Int) p H', ns'.Perm ns → ns'.Pairwise (· ≤ ·) → H p = none → Same H H' → H' p = some (.lst (ns'.map V.int)) → Q (.ref p) H') : SrtI K Q [.ref a] H :=
  ⟨a, ns, rfl, s, fun ns' p e1 e2 np => h ns' p _ e1 e2 np (same_new np) upd_same⟩
theorem srtIo {a : Addr} {ns : List Int} (s : H a = some (.lst (ns.map V.int))) (h : ∀ (ns' : List Int) p H', ns'.Perm ns → ns'.Pairwise (· ≤ ·) → H p = none → Same H H' → H' p = some (.lst (ns'.map V.int)) → Q (.ref p) H') : SrtI K Q [.ref a] H := srtI (SqL.of s) h
theorem eqD {d e : PyData} (h1 : Dp K H x d) (h2 : Dp K H y e) (s1 : SeqAt.shaped d = true) (s2 : SeqAt.shaped e = true) (q : Q (.bl (PyData.eqv d e)) H) : rEqD K x y H Q := ⟨d, e, h1, h2, s1, s2, q⟩
theorem neD {d e : PyData} (h1 : Dp K H x d) (h2 : Dp K H y e) (s1 : SeqAt.shaped d = true) (s2 : SeqAt.shaped e = true) (q : Q (.bl (!PyData.eqv d e)) H) : rNeD K x y H Q := ⟨d, e, h1, h2, s1, s2, q⟩
/-! ### isinstance -/
theorem isi {T U : String} {b : Bool} (t : TyX K H x (.type T)) (k : kitB T U = some b) (q : Q (.bl b) H) : rIsi K [x, .ty U] H Q := ⟨x, .ty U, _, _, b, rfl, .ty _, t, kit_ty k, q⟩
theorem isi_ii {n : Int} (q : Q (.bl true) H) : rIsi K [.int n, .ty "int"] H Q := isi (.base (.int _)) (by decide +kernel) q
theorem isi_ib {n : Int} (q : Q (.bl false) H) : rIsi K [.int n, .ty "bool"] H Q := isi (.base (.int _)) (by decide +kernel) q
theorem isi_is {n : Int} (q : Q (.bl false) H) : rIsi K [.int n, .ty "str"] H Q := isi (.base (.int _)) (by decide +kernel) q
theorem isi_il {n : Int} (q : Q (.bl false) H) : rIsi K [.int n, .ty "list"] H Q := isi (.base (.int _)) (by decide +kernel) q
theorem isi_it {n : Int} (q : Q (.bl false) H) : rIsi K [.int n, .ty "tuple"] H Q := isi (.base (.int _)) (by decide +kernel) q
theorem isi_id {n : Int} (q : Q (.bl false) H) : rIsi K [.int n, .ty "dict"] H Q := isi (.base (.int _)) (by decide +kernel) q
theorem isi_bi {n : Bool} (q : Q (.bl true) H) : rIsi K [.bl n, .ty "int"] H Q := isi (.base (.bl _)) (by decide +kernel) q
theorem isi_bb {n : Bool} (q : Q (.bl true) H) : rIsi K [.bl n, .ty "bool"] H Q := isi (.base (.bl _)) (by decide +kernel) q
theorem isi_bs {n : Bool} (q : Q (.bl false) H) : rIsi K [.bl n, .ty "str"] H Q := isi (.base (.bl _)) (by decide +kernel) q
theorem isi_bl {n : Bool} (q : Q (.bl false) H) : rIsi K [.bl n, .ty "list"] H Q := isi (.base (.bl _)) (by decide +kernel) q
theorem isi_bt {n : Bool} (q : Q (.bl false) H) : rIsi K [.bl n, .ty "tuple"] H Q := isi (.base (.bl _)) (by decide +kernel) q
theorem isi_bd {n : Bool} (q : Q (.bl false) H) : rIsi K [.bl n, .ty "dict"] H Q := isi (.base (.bl _)) (by decide +kernel) q
theorem isi_si {n : Str} (q : Q (.bl false) H) : rIsi K [.str n, .ty "int"] H Q := isi (.base (.str _)) (by decide +kernel) q
theorem isi_sb {n : Str} (q : Q (.bl false) H) : rIsi K [.str n, .ty "bool"] H Q := isi (.base (.str _)) (by decide +kernel) q
theorem isi_ss {n : Str} (q : Q (.bl true) H) : rIsi K [.str n, .ty "str"] H Q := isi (.base (.str _)) (by decide +kernel) q
theorem isi_sl {n : Str} (q : Q (.bl false) H) : rIsi K [.str n, .ty "list"] H Q := isi (.base (.str _)) (by decide +kernel) q
theorem isi_st {n : Str} (q : Q (.bl false) H) : rIsi K [.str n, .ty "tuple"] H Q := isi (.base (.str _)) (by decide +kernel) q
theorem isi_sd {n : Str} (q : Q (.bl false) H) : rIsi K [.str n, .ty "dict"] H Q := isi (.base (.str _)) (by decide +kernel) q
theorem isi_li {n : Addr} {xs : List V} (h : H n = some (.lst xs)) (q : Q (.bl false) H) : rIsi K [.ref n, .ty "int"] H Q := isi (.base (.lst h)) (by decide +kernel) q
theorem isi_lb {n : Addr} {xs : List V} (h : H n = some (.lst xs)) (q : Q (.bl false) H) : rIsi K [.ref n, .ty "bool"] H Q := isi (.base (.lst h)) (by decide +kernel) q
theorem isi_ls {n : Addr} {xs : List V} (h : H n = some (.lst xs)) (q : Q (.bl false) H) : rIsi K [.ref n, .ty "str"] H Q := isi (.base (.lst h)) (by decide +kernel) q
theorem isi_ll {n : Addr} {xs : List V} (h : H n = some (.lst xs)) (q : Q (.bl true) H) : rIsi K [.ref n, .ty "list"] H Q := isi (.base (.lst h)) (by decide +kernel) q
theorem isi_lt {n : Addr} {xs : List V} (h : H n = some (.lst xs)) (q : Q (.bl false) H) : rIsi K [.ref n, .ty "tuple"] H Q := isi (.base (.lst h)) (by decide +kernel) q
theorem isi_ld {n : Addr} {xs : List V} (h : H n = some (.lst xs)) (q : Q (.bl false) H) : rIsi K [.ref n, .ty "dict"] H Q := isi (.base (.lst h)) (by decide +kernel) q
theorem isi_ti {n : Addr} {xs : List V} (h : H n = some (.tup xs)) (q : Q (.bl false) H) : rIsi K [.ref n, .ty "int"] H Q := isi (.base (.tup h)) (by decide +kernel) q
theorem isi_tb {n : Addr} {xs : List V} (h : H n = some (.tup xs)) (q : Q (.bl false) H) : rIsi K [.ref n, .ty "bool"] H Q := isi (.base (.tup h)) (by decide +kernel) q
theorem isi_ts {n : Addr} {xs : List V} (h : H n = some (.tup xs)) (q : Q (.bl false) H) : rIsi K [.ref n, .ty "str"] H Q := isi (.base (.tup h)) (by decide +kernel) q
theorem isi_tl {n : Addr} {xs : List V} (h : H n = some (.tup xs)) (q : Q (.bl false) H) : rIsi K [.ref n, .ty "list"] H Q := isi (.base (.tup h)) (by decide +kernel) q
theorem isi_tt {n : Addr} {xs : List V} (h : H n = some (.tup xs)) (q : Q (.bl true) H) : rIsi K [.ref n, .ty "tuple"] H Q := isi (.base (.tup h)) (by decide +kernel) q
theorem isi_td {n : Addr} {xs : List V} (h : H n = some (.tup xs)) (q : Q (.bl false) H) : rIsi K [.ref n, .ty "dict"] H Q := isi (.base (.tup h)) (by decide +kernel) q
theorem isi_ni  (q : Q (.bl false) H) : rIsi K [.non, .ty "int"] H Q := isi (.base .non) (by decide +kernel) q
theorem isi_nb  (q : Q (.bl false) H) : rIsi K [.non, .ty "bool"] H Q := isi (.base .non) (by decide +kernel) q
theorem isi_ns  (q : Q (.bl false) H) : rIsi K [.non, .ty "str"] H Q := isi (.base .non) (by decide +kernel) q
theorem isi_nl  (q : Q (.bl false) H) : rIsi K [.non, .ty "list"] H Q := isi (.base .non) (by decide +kernel) q
theorem isi_nt  (q : Q (.bl false) H) : rIsi K [.non, .ty "tuple"] H Q := isi (.base .non) (by decide +kernel) q
theorem isi_nd  (q : Q (.bl false) H) : rIsi K [.non, .ty "dict"] H Q := isi (.base .non) (by decide +kernel) q
/-! ### slices of lists -/
theorem cut_to (xs : List V) (n : Nat) : cutV xs none (some (n : Int)) = xs.take n := by
  unfold cutV
  rw [HT.sIx_nat, HT.sIx_none, List.drop_zero, Nat.sub_zero]
  rcases Nat.le_total n xs.length with h | h
  · rw [Nat.min_eq_left h]
  · rw [Nat.min_eq_right h, List.take_of_length_le (Nat.le_refl _), List.take_of_length_le h]
theorem cut_from (xs : List V) (n : Nat) : cutV xs (some (n : Int)) none = xs.drop n := by
  unfold cutV
  rw [HT.sIx_nat, HT.sIx_none]
  rcases Nat.le_total n xs.length with h | h
  · rw [Nat.min_eq_left h, List.take_of_length_le (by rw [List.length_drop]; omega)]
  · rw [Nat.min_eq_right h, List.drop_of_length_le h, List.drop_of_length_le (Nat.le_refl _), List.take_nil]
theorem eqv_self (d : PyData) (h : d.canLay0 = true) : PyData.eqv d d = true := PySem.SeqAt.eqv_refl d h
/-! ### ints of a list, filtered -/
theorem lc_fl {a : Addr} {ns : List Int} {g : TG} {tt : TT} {te : TE} {vs : List Nat} {σ : L2.St} {H1 : Hp} {C : Addr} {Qd : Hp → Prop} (p : Int → Bool) (hS : SqL K H1 a (ns.map V.int)) (nD : H1 C = none) (hn : ns.length ≤ 90000)
    (hs : ∀ (i : Nat) H (n : Int) (Kt : VK) (Kn : Hp → Prop), ns[i]? = some n → But C H1 H → (p n = true → Kt (.int n) H) → (p n = false → Kn H) → g (.int n) (wipe σ vs) H fun σ2 H2 => wipe σ2 vs = wipe σ vs ∧ tt σ2 H2 fun b H3 => if b = true then te σ2 H3 Kt else Kn H3)
    (hd : ∀ H, Same H1 H → H C = some (.lst ((ns.filter p).map V.int)) → Qd H) :
    ∃ W : Nat → Nat → Hp → Prop, (∃ m, W 0 m (upd H1 C (.lst []))) ∧ ∀ i m H, W i m H →
      ((Itl K a).stop i H ∧ Qd H) ∨ ((Itl K a).go i H ∧ ∃ Nx : Hp → Prop, (∀ H', Nx H' → ∃ m', m' < m ∧ W (i + 1) m' H') ∧ ∀ x H', (Itl K a).yld i H x H' → g x (wipe σ vs) H' fun σ2 H2 => wipe σ2 vs = wipe σ vs ∧ tt σ2 H2 fun b H3 =>
        if b = true then te σ2 H3 fun y H4 => ∃ acc, H4 C = some (.lst acc) ∧ acc.length < sizeLine ∧ Nx (upd H4 C (.lst (acc ++ [y]))) else Nx H3) := by
  refine lc_it (walk_list (xs := ns.map V.int)) (fun i H => But C H1 H ∧ H C = some (.lst (((ns.take i).filter p).map V.int))) ⟨But.at_, by simp [upd_same]⟩ (fun i H _ h => (h.1.to nD).seq hS) (fun i x H H' hi ⟨b, hD⟩ y => ?_) (fun H ⟨b, hD⟩ => ?_)
  · obtain ⟨rfl, hx⟩ := y
    rw [List.getElem?_map] at hx
    obtain ⟨n, hn2, rfl⟩ : ∃ n, ns[i]? = some n ∧ V.int n = x := by
      cases e : ns[i]? with
      | none => rw [e] at hx; cases hx
      | some n => rw [e] at hx; exact ⟨n, rfl, Option.some.inj hx⟩
    have tk : (ns.take (i + 1)).filter p = (ns.take i).filter p ++ [n].filter p := by
      rw [List.take_add_one, hn2, List.filter_append]; rfl
    refine hs i _ n _ _ hn2 b (fun hp => ?_) (fun hp => ?_)
    · refine ⟨_, hD, szl ?_, b.trans But.at_, ?_⟩
      · rw [List.length_map]
        have := List.length_filter_le p (ns.take i)
        rw [List.length_take] at this
        omega
      · rw [upd_same, tk, List.filter_cons_of_pos hp]
        simp
    · refine ⟨b, ?_⟩
      rw [tk, List.filter_cons_of_neg (by simp [hp])]
      simpa using hD
  · rw [List.length_map, List.take_of_length_le (Nat.le_refl _)] at hD
    exact hd H (b.to nD) hD
theorem intI {i : Int} {A : Int → Prop} {B : Prop} (h : A i) : (∃ j, [V.int i] = [.int j] ∧ A j) ∨ B := .inl ⟨i, rfl, h⟩
theorem pos_ne {i : Int} (h : 0 < i) : i ≠ 0 := by omega
theorem ifnT {A B : Prop} (h : B) : if (!true) = true then A else B := by rw [if_neg (by decide)]; exact h
theorem ifnF {A B : Prop} (h : A) : if (!false) = true then A else B := by rw [if_pos (by decide)]; exact h
theorem cbListOfR {tr : TA} (h : tr σ H (ListOf K Q)) : tCB (rListOf K) tr σ H Q := h
def CatL (Q : VK) (x y : V) (H : Hp) : Prop := ∃ l b xs zs, x = .ref l ∧ y = .ref b ∧ H l = some (.lst xs) ∧ H b = some (.lst zs) ∧ xs.length + zs.length ≤ sizeLine ∧ ∀ p, H p = none → Q (.ref p) (upd H p (.lst (xs ++ zs)))
theorem catI (h : CatL Q x y H) : rCat x y H Q := h
theorem cat {a b : Addr} {xs zs : List V} (h1 : H a = some (.lst xs)) (h2 : H b = some (.lst zs)) (s : xs.length + zs.length ≤ 100000) (h : ∀ p H', H p = none → Same H H' → H' p = some (.lst (xs ++ zs)) → Q (.ref p) H') : CatL Q (.ref a) (.ref b) H := ⟨a, b, xs, zs, rfl, rfl, h1, h2, sz s, fun p np => h p _ np (same_new np) upd_same⟩
theorem v16 {a0 a1 a2 a3 a4 a5 a6 a7 a8 a9 a10 a11 a12 a13 a14 a15 : Option V} (h : Q v H) : tVar 16 (a0 :: a1 :: a2 :: a3 :: a4 :: a5 :: a6 :: a7 :: a8 :: a9 :: a10 :: a11 :: a12 :: a13 :: a14 :: a15 :: some v :: r) H Q := ⟨v, rfl, h⟩
theorem n16 {a0 a1 a2 a3 a4 a5 a6 a7 a8 a9 a10 a11 a12 a13 a14 a15 : Option V} {Q : L2.St → Hp → Prop} (h : Q (a0 :: a1 :: a2 :: a3 :: a4 :: a5 :: a6 :: a7 :: a8 :: a9 :: a10 :: a11 :: a12 :: a13 :: a14 :: a15 :: some v :: r) H) : gName 16 v (a0 :: a1 :: a2 :: a3 :: a4 :: a5 :: a6 :: a7 :: a8 :: a9 :: a10 :: a11 :: a12 :: a13 :: a14 :: a15 :: a :: r) H Q := h
theorem g16 {a0 a1 a2 a3 a4 a5 a6 a7 a8 a9 a10 a11 a12 a13 a14 a15 : Option V} {ti : TIp} (h : te (a0 :: a1 :: a2 :: a3 :: a4 :: a5 :: a6 :: a7 :: a8 :: a9 :: a10 :: a11 :: a12 :: a13 :: a14 :: a15 :: some x :: r) H fun y H1 => ti x y H1 fun z H2 => D.nx (a0 :: a1 :: a2 :: a3 :: a4 :: a5 :: a6 :: a7 :: a8 :: a9 :: a10 :: a11 :: a12 :: a13 :: a14 :: a15 :: some z :: r) H2) : tAug 16 te ti D (a0 :: a1 :: a2 :: a3 :: a4 :: a5 :: a6 :: a7 :: a8 :: a9 :: a10 :: a11 :: a12 :: a13 :: a14 :: a15 :: some x :: r) H := ⟨x, rfl, h⟩
theorem v17 {a0 a1 a2 a3 a4 a5 a6 a7 a8 a9 a10 a11 a12 a13 a14 a15 a16 : Option V} (h : Q v H) : tVar 17 (a0 :: a1 :: a2 :: a3 :: a4 :: a5 :: a6 :: a7 :: a8 :: a9 :: a10 :: a11 :: a12 :: a13 :: a14 :: a15 :: a16 :: some v :: r) H Q := ⟨v, rfl, h⟩
theorem n17 {a0 a1 a2 a3 a4 a5 a6 a7 a8 a9 a10 a11 a12 a13 a14 a15 a16 : Option V} {Q : L2.St → Hp → Prop} (h : Q (a0 :: a1 :: a2 :: a3 :: a4 :: a5 :: a6 :: a7 :: a8 :: a9 :: a10 :: a11 :: a12 :: a13 :: a14 :: a15 :: a16 :: some v :: r) H) : gName 17 v (a0 :: a1 :: a2 :: a3 :: a4 :: a5 :: a6 :: a7 :: a8 :: a9 :: a10 :: a11 :: a12 :: a13 :: a14 :: a15 :: a16 :: a :: r) H Q := h
theorem g17 {a0 a1 a2 a3 a4 a5 a6 a7 a8 a9 a10 a11 a12 a13 a14 a15 a16 : Option V} {ti : TIp} (h : te (a0 :: a1 :: a2 :: a3 :: a4 :: a5 :: a6 :: a7 :: a8 :: a9 :: a10 :: a11 :: a12 :: a13 :: a14 :: a15 :: a16 :: some x :: r) H fun y H1 => ti x y H1 fun z H2 => D.nx (a0 :: a1 :: a2 :: a3 :: a4 :: a5 :: a6 :: a7 :: a8 :: a9 :: a10 :: a11 :: a12 :: a13 :: a14 :: a15 :: a16 :: some z :: r) H2) : tAug 17 te ti D (a0 :: a1 :: a2 :: a3 :: a4 :: a5 :: a6 :: a7 :: a8 :: a9 :: a10 :: a11 :: a12 :: a13 :: a14 :: a15 :: a16 :: some x :: r) H := ⟨x, rfl, h⟩
theorem v18 {a0 a1 a2 a3 a4 a5 a6 a7 a8 a9 a10 a11 a12 a13 a14 a15 a16 a17 : Option V} (h : Q v H) : tVar 18 (a0 :: a1 :: a2 :: a3 :: a4 :: a5 :: a6 :: a7 :: a8 :: a9 :: a10 :: a11 :: a12 :: a13 :: a14 :: a15 :: a16 :: a17 :: some v :: r) H Q := ⟨v, rfl, h⟩
theorem n18 {a0 a1 a2 a3 a4 a5 a6 a7 a8 a9 a10 a11 a12 a13 a14 a15 a16 a17 : Option V} {Q : L2.St → Hp → Prop} (h : Q (a0 :: a1 :: a2 :: a3 :: a4 :: a5 :: a6 :: a7 :: a8 :: a9 :: a10 :: a11 :: a12 :: a13 :: a14 :: a15 :: a16 :: a17 :: some v :: r) H) : gName 18 v (a0 :: a1 :: a2 :: a3 :: a4 :: a5 :: a6 :: a7 :: a8 :: a9 :: a10 :: a11 :: a12 :: a13 :: a14 :: a15 :: a16 :: a17 :: a :: r) H Q := h
theorem g18 {a0 a1 a2 a3 a4 a5 a6 a7 a8 a9 a10 a11 a12 a13 a14 a15 a16 a17 : Option V} {ti : TIp} (h : te (a0 :: a1 :: a2 :: a3 :: a4 :: a5 :: a6 :: a7 :: a8 :: a9 :: a10 :: a11 :: a12 :: a13 :: a14 :: a15 :: a16 :: a17 :: some x :: r) H fun y H1 => ti x y H1 fun z H2 => D.nx (a0 :: a1 :: a2 :: a3 :: a4 :: a5 :: a6 :: a7 :: a8 :: a9 :: a10 :: a11 :: a12 :: a13 :: a14 :: a15 :: a16 :: a17 :: some z :: r) H2) : tAug 18 te ti D (a0 :: a1 :: a2 :: a3 :: a4 :: a5 :: a6 :: a7 :: a8 :: a9 :: a10 :: a11 :: a12 :: a13 :: a14 :: a15 :: a16 :: a17 :: some x :: r) H := ⟨x, rfl, h⟩
theorem v19 {a0 a1 a2 a3 a4 a5 a6 a7 a8 a9 a10 a11 a12 a13 a14 a15 a16 a17 a18 : Option V} (h : Q v H) : tVar 19 (a0 :: a1 :: a2 :: a3 :: a4 :: a5 :: a6 :: a7 :: a8 :: a9 :: a10 :: a11 :: a12 :: a13 :: a14 :: a15 :: a16 :: a17 :: a18 :: some v :: r) H Q := ⟨v, rfl, h⟩
theorem n19 {a0 a1 a2 a3 a4 a5 a6 a7 a8 a9 a10 a11 a12 a13 a14 a15 a16 a17 a18 : Option V} {Q : L2.St → Hp → Prop} (h : Q (a0 :: a1 :: a2 :: a3 :: a4 :: a5 :: a6 :: a7 :: a8 :: a9 :: a10 :: a11 :: a12 :: a13 :: a14 :: a15 :: a16 :: a17 :: a18 :: some v :: r) H) : gName 19 v (a0 :: a1 :: a2 :: a3 :: a4 :: a5 :: a6 :: a7 :: a8 :: a9 :: a10 :: a11 :: a12 :: a13 :: a14 :: a15 :: a16 :: a17 :: a18 :: a :: r) H Q := h
theorem g19 {a0 a1 a2 a3 a4 a5 a6 a7 a8 a9 a10 a11 a12 a13 a14 a15 a16 a17 a18 : Option V} {ti : TIp} (h : te (a0 :: a1 :: a2 :: a3 :: a4 :: a5 :: a6 :: a7 :: a8 :: a9 :: a10 :: a11 :: a12 :: a13 :: a14 :: a15 :: a16 :: a17 :: a18 :: some x :: r) H fun y H1 => ti x y H1 fun z H2 => D.nx (a0 :: a1 :: a2 :: a3 :: a4 :: a5 :: a6 :: a7 :: a8 :: a9 :: a10 :: a11 :: a12 :: a13 :: a14 :: a15 :: a16 :: a17 :: a18 :: some z :: r) H2) : tAug 19 te ti D (a0 :: a1 :: a2 :: a3 :: a4 :: a5 :: a6 :: a7 :: a8 :: a9 :: a10 :: a11 :: a12 :: a13 :: a14 :: a15 :: a16 :: a17 :: a18 :: some x :: r) H := ⟨x, rfl, h⟩
theorem v20 {a0 a1 a2 a3 a4 a5 a6 a7 a8 a9 a10 a11 a12 a13 a14 a15 a16 a17 a18 a19 : Option V} (h : Q v H) : tVar 20 (a0 :: a1 :: a2 :: a3 :: a4 :: a5 :: a6 :: a7 :: a8 :: a9 :: a10 :: a11 :: a12 :: a13 :: a14 :: a15 :: a16 :: a17 :: a18 :: a19 :: some v :: r) H Q := ⟨v, rfl, h⟩
theorem n20 {a0 a1 a2 a3 a4 a5 a6 a7 a8 a9 a10 a11 a12 a13 a14 a15 a16 a17 a18 a19 : Option V} {Q : L2.St → Hp → Prop} (h : Q (a0 :: a1 :: a2 :: a3 :: a4 :: a5 :: a6 :: a7 :: a8 :: a9 :: a10 :: a11 :: a12 :: a13 :: a14 :: a15 :: a16 :: a17 :: a18 :: a19 :: some v :: r) H) : gName 20 v (a0 :: a1 :: a2 :: a3 :: a4 :: a5 :: a6 :: a7 :: a8 :: a9 :: a10 :: a11 :: a12 :: a13 :: a14 :: a15 :: a16 :: a17 :: a18 :: a19 :: a :: r) H Q := h
theorem g20 {a0 a1 a2 a3 a4 a5 a6 a7 a8 a9 a10 a11 a12 a13 a14 a15 a16 a17 a18 a19 : Option V} {ti : TIp} (h : te (a0 :: a1 :: a2 :: a3 :: a4 :: a5 :: a6 :: a7 :: a8 :: a9 :: a10 :: a11 :: a12 :: a13 :: a14 :: a15 :: a16 :: a17 :: a18 :: a19 :: some x :: r) H fun y H1 => ti x y H1 fun z H2 => D.nx (a0 :: a1 :: a2 :: a3 :: a4 :: a5 :: a6 :: a7 :: a8 :: a9 :: a10 :: a11 :: a12 :: a13 :: a14 :: a15 :: a16 :: a17 :: a18 :: a19 :: some z :: r) H2) : tAug 20 te ti D (a0 :: a1 :: a2 :: a3 :: a4 :: a5 :: a6 :: a7 :: a8 :: a9 :: a10 :: a11 :: a12 :: a13 :: a14 :: a15 :: a16 :: a17 :: a18 :: a19 :: some x :: r) H := ⟨x, rfl, h⟩
theorem v21 {a0 a1 a2 a3 a4 a5 a6 a7 a8 a9 a10 a11 a12 a13 a14 a15 a16 a17 a18 a19 a20 : Option V} (h : Q v H) : tVar 21 (a0 :: a1 :: a2 :: a3 :: a4 :: a5 :: a6 :: a7 :: a8 :: a9 :: a10 :: a11 :: a12 :: a13 :: a14 :: a15 :: a16 :: a17 :: a18 :: a19 :: a20 :: some v :: r) H Q := ⟨v, rfl, h⟩
theorem n21 {a0 a1 a2 a3 a4 a5 a6 a7 a8 a9 a10 a11 a12 a13 a14 a15 a16 a17 a18 a19 a20 : Option V} {Q : L2.St → Hp → Prop} (h : Q (a0 :: a1 :: a2 :: a3 :: a4 :: a5 :: a6 :: a7 :: a8 :: a9 :: a10 :: a11 :: a12 :: a13 :: a14 :: a15 :: a16 :: a17 :: a18 :: a19 :: a20 :: some v :: r) H) : gName 21 v (a0 :: a1 :: a2 :: a3 :: a4 :: a5 :: a6 :: a7 :: a8 :: a9 :: a10 :: a11 :: a12 :: a13 :: a14 :: a15 :: a16 :: a17 :: a18 :: a19 :: a20 :: a :: r) H Q := h
theorem g21 {a0 a1 a2 a3 a4 a5 a6 a7 a8 a9 a10 a11 a12 a13 a14 a15 a16 a17 a18 a19 a20 : Option V} {ti : TIp} (h : te (a0 :: a1 :: a2 :: a3 :: a4 :: a5 :: a6 :: a7 :: a8 :: a9 :: a10 :: a11 :: a12 :: a13 :: a14 :: a15 :: a16 :: a17 :: a18 :: a19 :: a20 :: some x :: r) H fun y H1 => ti x y H1 fun z H2 => D.nx (a0 :: a1 :: a2 :: a3 :: a4 :: a5 :: a6 :: a7 :: a8 :: a9 :: a10 :: a11 :: a12 :: a13 :: a14 :: a15 :: a16 :: a17 :: a18 :: a19 :: a20 :: some z :: r) H2) : tAug 21 te ti D (a0 :: a1 :: a2 :: a3 :: a4 :: a5 :: a6 :: a7 :: a8 :: a9 :: a10 :: a11 :: a12 :: a13 :: a14 :: a15 :: a16 :: a17 :: a18 :: a19 :: a20 :: some x :: r) H := ⟨x, rfl, h⟩
theorem v22 {a0 a1 a2 a3 a4 a5 a6 a7 a8 a9 a10 a11 a12 a13 a14 a15 a16 a17 a18 a19 a20 a21 : Option V} (h : Q v H) : tVar 22 (a0 :: a1 :: a2 :: a3 :: a4 :: a5 :: a6 :: a7 :: a8 :: a9 :: a10 :: a11 :: a12 :: a13 :: a14 :: a15 :: a16 :: a17 :: a18 :: a19 :: a20 :: a21 :: some v :: r) H Q := ⟨v, rfl, h⟩
theorem n22 {a0 a1 a2 a3 a4 a5 a6 a7 a8 a9 a10 a11 a12 a13 a14 a15 a16 a17 a18 a19 a20 a21 : Option V} {Q : L2.St → Hp → Prop} (h : Q (a0 :: a1 :: a2 :: a3 :: a4 :: a5 :: a6 :: a7 :: a8 :: a9 :: a10 :: a11 :: a12 :: a13 :: a14 :: a15 :: a16 :: a17 :: a18 :: a19 :: a20 :: a21 :: some v :: r) H) : gName 22 v (a0 :: a1 :: a2 :: a3 :: a4 :: a5 :: a6 :: a7 :: a8 :: a9 :: a10 :: a11 :: a12 :: a13 :: a14 :: a15 :: a16 :: a17 :: a18 :: a19 :: a20 :: a21 :: a :: r) H Q := h
theorem g22 {a0 a1 a2 a3 a4 a5 a6 a7 a8 a9 a10 a11 a12 a13 a14 a15 a16 a17 a18 a19 a20 a21 : Option V} {ti : TIp} (h : te (a0 :: a1 :: a2 :: a3 :: a4 :: a5 :: a6 :: a7 :: a8 :: a9 :: a10 :: a11 :: a12 :: a13 :: a14 :: a15 :: a16 :: a17 :: a18 :: a19 :: a20 :: a21 :: some x :: r) H fun y H1 => ti x y H1 fun z H2 => D.nx (a0 :: a1 :: a2 :: a3 :: a4 :: a5 :: a6 :: a7 :: a8 :: a9 :: a10 :: a11 :: a12 :: a13 :: a14 :: a15 :: a16 :: a17 :: a18 :: a19 :: a20 :: a21 :: some z :: r) H2) : tAug 22 te ti D (a0 :: a1 :: a2 :: a3 :: a4 :: a5 :: a6 :: a7 :: a8 :: a9 :: a10 :: a11 :: a12 :: a13 :: a14 :: a15 :: a16 :: a17 :: a18 :: a19 :: a20 :: a21 :: some x :: r) H := ⟨x, rfl, h⟩
theorem v23 {a0 a1 a2 a3 a4 a5 a6 a7 a8 a9 a10 a11 a12 a13 a14 a15 a16 a17 a18 a19 a20 a21 a22 : Option V} (h : Q v H) : tVar 23 (a0 :: a1 :: a2 :: a3 :: a4 :: a5 :: a6 :: a7 :: a8 :: a9 :: a10 :: a11 :: a12 :: a13 :: a14 :: a15 :: a16 :: a17 :: a18 :: a19 :: a20 :: a21 :: a22 :: some v :: r) H Q := ⟨v, rfl, h⟩
theorem n23 {a0 a1 a2 a3 a4 a5 a6 a7 a8 a9 a10 a11 a12 a13 a14 a15 a16 a17 a18 a19 a20 a21 a22 : Option V} {Q : L2.St → Hp → Prop} (h : Q (a0 :: a1 :: a2 :: a3 :: a4 :: a5 :: a6 :: a7 :: a8 :: a9 :: a10 :: a11 :: a12 :: a13 :: a14 :: a15 :: a16 :: a17 :: a18 :: a19 :: a20 :: a21 :: a22 :: some v :: r) H) : gName 23 v (a0 :: a1 :: a2 :: a3 :: a4 :: a5 :: a6 :: a7 :: a8 :: a9 :: a10 :: a11 :: a12 :: a13 :: a14 :: a15 :: a16 :: a17 :: a18 :: a19 :: a20 :: a21 :: a22 :: a :: r) H Q := h
theorem g23 {a0 a1 a2 a3 a4 a5 a6 a7 a8 a9 a10 a11 a12 a13 a14 a15 a16 a17 a18 a19 a20 a21 a22 : Option V} {ti : TIp} (h : te (a0 :: a1 :: a2 :: a3 :: a4 :: a5 :: a6 :: a7 :: a8 :: a9 :: a10 :: a11 :: a12 :: a13 :: a14 :: a15 :: a16 :: a17 :: a18 :: a19 :: a20 :: a21 :: a22 :: some x :: r) H fun y H1 => ti x y H1 fun z H2 => D.nx (a0 :: a1 :: a2 :: a3 :: a4 :: a5 :: a6 :: a7 :: a8 :: a9 :: a10 :: a11 :: a12 :: a13 :: a14 :: a15 :: a16 :: a17 :: a18 :: a19 :: a20 :: a21 :: a22 :: some z :: r) H2) : tAug 23 te ti D (a0 :: a1 :: a2 :: a3 :: a4 :: a5 :: a6 :: a7 :: a8 :: a9 :: a10 :: a11 :: a12 :: a13 :: a14 :: a15 :: a16 :: a17 :: a18 :: a19 :: a20 :: a21 :: a22 :: some x :: r) H := ⟨x, rfl, h⟩
theorem v24 {a0 a1 a2 a3 a4 a5 a6 a7 a8 a9 a10 a11 a12 a13 a14 a15 a16 a17 a18 a19 a20 a21 a22 a23 : Option V} (h : Q v H) : tVar 24 (a0 :: a1 :: a2 :: a3 :: a4 :: a5 :: a6 :: a7 :: a8 :: a9 :: a10 :: a11 :: a12 :: a13 :: a14 :: a15 :: a16 :: a17 :: a18 :: a19 :: a20 :: a21 :: a22 :: a23 :: some v :: r) H Q := ⟨v, rfl, h⟩
theorem n24 {a0 a1 a2 a3 a4 a5 a6 a7 a8 a9 a10 a11 a12 a13 a14 a15 a16 a17 a18 a19 a20 a21 a22 a23 : Option V} {Q : L2.St → Hp → Prop} (h : Q (a0 :: a1 :: a2 :: a3 :: a4 :: a5 :: a6 :: a7 :: a8 :: a9 :: a10 :: a11 :: a12 :: a13 :: a14 :: a15 :: a16 :: a17 :: a18 :: a19 :: a20 :: a21 :: a22 :: a23 :: some v :: r) H) : gName 24 v (a0 :: a1 :: a2 :: a3 :: a4 :: a5 :: a6 :: a7 :: a8 :: a9 :: a10 :: a11 :: a12 :: a13 :: a14 :: a15 :: a16 :: a17 :: a18 :: a19 :: a20 :: a21 :: a22 :: a23 :: a :: r) H Q := h
theorem g24 {a0 a1 a2 a3 a4 a5 a6 a7 a8 a9 a10 a11 a12 a13 a14 a15 a16 a17 a18 a19 a20 a21 a22 a23 : Option V} {ti : TIp} (h : te (a0 :: a1 :: a2 :: a3 :: a4 :: a5 :: a6 :: a7 :: a8 :: a9 :: a10 :: a11 :: a12 :: a13 :: a14 :: a15 :: a16 :: a17 :: a18 :: a19 :: a20 :: a21 :: a22 :: a23 :: some x :: r) H fun y H1 => ti x y H1 fun z H2 => D.nx (a0 :: a1 :: a2 :: a3 :: a4 :: a5 :: a6 :: a7 :: a8 :: a9 :: a10 :: a11 :: a12 :: a13 :: a14 :: a15 :: a16 :: a17 :: a18 :: a19 :: a20 :: a21 :: a22 :: a23 :: some z :: r) H2) : tAug 24 te ti D (a0 :: a1 :: a2 :: a3 :: a4 :: a5 :: a6 :: a7 :: a8 :: a9 :: a10 :: a11 :: a12 :: a13 :: a14 :: a15 :: a16 :: a17 :: a18 :: a19 :: a20 :: a21 :: a22 :: a23 :: some x :: r) H := ⟨x, rfl, h⟩
theorem v25 {a0 a1 a2 a3 a4 a5 a6 a7 a8 a9 a10 a11 a12 a13 a14 a15 a16 a17 a18 a19 a20 a21 a22 a23 a24 : Option V} (h : Q v H) : tVar 25 (a0 :: a1 :: a2 :: a3 :: a4 :: a5 :: a6 :: a7 :: a8 :: a9 :: a10 :: a11 :: a12 :: a13 :: a14 :: a15 :: a16 :: a17 :: a18 :: a19 :: a20 :: a21 :: a22 :: a23 :: a24 :: some v :: r) H Q := ⟨v, rfl, h⟩
theorem n25 {a0 a1 a2 a3 a4 a5 a6 a7 a8 a9 a10 a11 a12 a13 a14 a15 a16 a17 a18 a19 a20 a21 a22 a23 a24 : Option V} {Q : L2.St → Hp → Prop} (h : Q (a0 :: a1 :: a2 :: a3 :: a4 :: a5 :: a6 :: a7 :: a8 :: a9 :: a10 :: a11 :: a12 :: a13 :: a14 :: a15 :: a16 :: a17 :: a18 :: a19 :: a20 :: a21 :: a22 :: a23 :: a24 :: some v :: r) H) : gName 25 v (a0 :: a1 :: a2 :: a3 :: a4 :: a5 :: a6 :: a7 :: a8 :: a9 :: a10 :: a11 :: a12 :: a13 :: a14 :: a15 :: a16 :: a17 :: a18 :: a19 :: a20 :: a21 :: a22 :: a23 :: a24 :: a :: r) H Q := h
theorem g25 {a0 a1 a2 a3 a4 a5 a6 a7 a8 a9 a10 a11 a12 a13 a14 a15 a16 a17 a18 a19 a20 a21 a22 a23 a24 : Option V} {ti : TIp} (h : te (a0 :: a1 :: a2 :: a3 :: a4 :: a5 :: a6 :: a7 :: a8 :: a9 :: a10 :: a11 :: a12 :: a13 :: a14 :: a15 :: a16 :: a17 :: a18 :: a19 :: a20 :: a21 :: a22 :: a23 :: a24 :: some x :: r) H fun y H1 => ti x y H1 fun z H2 => D.nx (a0 :: a1 :: a2 :: a3 :: a4 :: a5 :: a6 :: a7 :: a8 :: a9 :: a10 :: a11 :: a12 :: a13 :: a14 :: a15 :: a16 :: a17 :: a18 :: a19 :: a20 :: a21 :: a22 :: a23 :: a24 :: some z :: r) H2) : tAug 25 te ti D (a0 :: a1 :: a2 :: a3 :: a4 :: a5 :: a6 :: a7 :: a8 :: a9 :: a10 :: a11 :: a12 :: a13 :: a14 :: a15 :: a16 :: a17 :: a18 :: a19 :: a20 :: a21 :: a22 :: a23 :: a24 :: some x :: r) H := ⟨x, rfl, h⟩
theorem v26 {a0 a1 a2 a3 a4 a5 a6 a7 a8 a9 a10 a11 a12 a13 a14 a15 a16 a17 a18 a19 a20 a21 a22 a23 a24 a25 : Option V} (h : Q v H) : tVar 26 (a0 :: a1 :: a2 :: a3 :: a4 :: a5 :: a6 :: a7 :: a8 :: a9 :: a10 :: a11 :: a12 :: a13 :: a14 :: a15 :: a16 :: a17 :: a18 :: a19 :: a20 :: a21 :: a22 :: a23 :: a24 :: a25 :: some v :: r) H Q := ⟨v, rfl, h⟩
theorem n26 {a0 a1 a2 a3 a4 a5 a6 a7 a8 a9 a10 a11 a12 a13 a14 a15 a16 a17 a18 a19 a20 a21 a22 a23 a24 a25 : Option V} {Q : L2.St → Hp → Prop} (h : Q (a0 :: a1 :: a2 :: a3 :: a4 :: a5 :: a6 :: a7 :: a8 :: a9 :: a10 :: a11 :: a12 :: a13 :: a14 :: a15 :: a16 :: a17 :: a18 :: a19 :: a20 :: a21 :: a22 :: a23 :: a24 :: a25 :: some v :: r) H) : gName 26 v (a0 :: a1 :: a2 :: a3 :: a4 :: a5 :: a6 :: a7 :: a8 :: a9 :: a10 :: a11 :: a12 :: a13 :: a14 :: a15 :: a16 :: a17 :: a18 :: a19 :: a20 :: a21 :: a22 :: a23 :: a24 :: a25 :: a :: r) H Q := h
theorem g26 {a0 a1 a2 a3 a4 a5 a6 a7 a8 a9 a10 a11 a12 a13 a14 a15 a16 a17 a18 a19 a20 a21 a22 a23 a24 a25 : Option V} {ti : TIp} (h : te (a0 :: a1 :: a2 :: a3 :: a4 :: a5 :: a6 :: a7 :: a8 :: a9 :: a10 :: a11 :: a12 :: a13 :: a14 :: a15 :: a16 :: a17 :: a18 :: a19 :: a20 :: a21 :: a22 :: a23 :: a24 :: a25 :: some x :: r) H fun y H1 => ti x y H1 fun z H2 => D.nx (a0 :: a1 :: a2 :: a3 :: a4 :: a5 :: a6 :: a7 :: a8 :: a9 :: a10 :: a11 :: a12 :: a13 :: a14 :: a15 :: a16 :: a17 :: a18 :: a19 :: a20 :: a21 :: a22 :: a23 :: a24 :: a25 :: some z :: r) H2) : tAug 26 te ti D (a0 :: a1 :: a2 :: a3 :: a4 :: a5 :: a6 :: a7 :: a8 :: a9 :: a10 :: a11 :: a12 :: a13 :: a14 :: a15 :: a16 :: a17 :: a18 :: a19 :: a20 :: a21 :: a22 :: a23 :: a24 :: a25 :: some x :: r) H := ⟨x, rfl, h⟩
theorem v27 {a0 a1 a2 a3 a4 a5 a6 a7 a8 a9 a10 a11 a12 a13 a14 a15 a16 a17 a18 a19 a20 a21 a22 a23 a24 a25 a26 : Option V} (h : Q v H) : tVar 27 (a0 :: a1 :: a2 :: a3 :: a4 :: a5 :: a6 :: a7 :: a8 :: a9 :: a10 :: a11 :: a12 :: a13 :: a14 :: a15 :: a16 :: a17 :: a18 :: a19 :: a20 :: a21 :: a22 :: a23 :: a24 :: a25 :: a26 :: some v :: r) H Q := ⟨v, rfl, h⟩
theorem n27 {a0 a1 a2 a3 a4 a5 a6 a7 a8 a9 a10 a11 a12 a13 a14 a15 a16 a17 a18 a19 a20 a21 a22 a23 a24 a25 a26 : Option V} {Q : L2.St → Hp → Prop} (h : Q (a0 :: a1 :: a2 :: a3 :: a4 :: a5 :: a6 :: a7 :: a8 :: a9 :: a10 :: a11 :: a12 :: a13 :: a14 :: a15 :: a16 :: a17 :: a18 :: a19 :: a20 :: a21 :: a22 :: a23 :: a24 :: a25 :: a26 :: some v :: r) H) : gName 27 v (a0 :: a1 :: a2 :: a3 :: a4 :: a5 :: a6 :: a7 :: a8 :: a9 :: a10 :: a11 :: a12 :: a13 :: a14 :: a15 :: a16 :: a17 :: a18 :: a19 :: a20 :: a21 :: a22 :: a23 :: a24 :: a25 :: a26 :: a :: r) H Q := h
theorem g27 {a0 a1 a2 a3 a4 a5 a6 a7 a8 a9 a10 a11 a12 a13 a14 a15 a16 a17 a18 a19 a20 a21 a22 a23 a24 a25 a26 : Option V} {ti : TIp} (h : te (a0 :: a1 :: a2 :: a3 :: a4 :: a5 :: a6 :: a7 :: a8 :: a9 :: a10 :: a11 :: a12 :: a13 :: a14 :: a15 :: a16 :: a17 :: a18 :: a19 :: a20 :: a21 :: a22 :: a23 :: a24 :: a25 :: a26 :: some x :: r) H fun y H1 => ti x y H1 fun z H2 => D.nx (a0 :: a1 :: a2 :: a3 :: a4 :: a5 :: a6 :: a7 :: a8 :: a9 :: a10 :: a11 :: a12 :: a13 :: a14 :: a15 :: a16 :: a17 :: a18 :: a19 :: a20 :: a21 :: a22 :: a23 :: a24 :: a25 :: a26 :: some z :: r) H2) : tAug 27 te ti D (a0 :: a1 :: a2 :: a3 :: a4 :: a5 :: a6 :: a7 :: a8 :: a9 :: a10 :: a11 :: a12 :: a13 :: a14 :: a15 :: a16 :: a17 :: a18 :: a19 :: a20 :: a21 :: a22 :: a23 :: a24 :: a25 :: a26 :: some x :: r) H := ⟨x, rfl, h⟩
end Rd

set_option Elab.async false
set_option linter.all false
set_option maxRecDepth 100000
/-! dicts whose keys are ints: what a reading asks of them, over lists of pairs -/
namespace L2
open PySem PySem.Spec PyProof.Rows
section
variable {X : Cx}
/-- name = {..} on one line, the name a local: the dict comprehension's form of the rule for a list -/
theorem ps_setDc {i : Nat} {y : Str} {py : Pos} {kx vx tg iter : Expr} {ifs : List Expr} {scope : Scope} {own : List (Str × Nat)} {pos spos : Pos} {wi : TI} {g : TG} {tt : TT} {tk tv : TE} (hc : X.calm = true) (hN : X.N.Nodup) (hy : X.N[i]? = some y) (hyl : X.env.scope.names.lookup y = some .local)
    (hsw : swapsWith (.DictComp kx vx [⟨tg, iter, ifs, 0⟩] scope pos) (some (.Name y py)) spos.line X.env = pure true) (hi : PI X tg iter wi) (ok : BlkOk X.N X.env.scope scope own)
    (hg : ∀ (s : Shared) (H : Hp) (C : Addr) (cl : List (Str × Addr)) (fp : List Addr), PG (X.blk s H scope (compEnvC scope cl C X.env) fp) tg g) (ht : ∀ (s : Shared) (H : Hp) (C : Addr) (cl : List (Str × Addr)) (fp : List Addr), PTs (X.blk s H scope (compEnvC scope cl C X.env) fp) ifs tt)
    (hk : ∀ (s : Shared) (H : Hp) (C : Addr) (cl : List (Str × Addr)) (fp : List Addr), PE (X.blk s H scope (compEnvC scope cl C X.env) fp) kx tk)
    (he : ∀ (s : Shared) (H : Hp) (C : Addr) (cl : List (Str × Addr)) (fp : List Addr), PE (X.blk s H scope (compEnvC scope cl C X.env) fp) vx tv) (hs : ∀ x, foldedSetIterable iter X.env x = pure x := by intro _; rfl) :
    PS X (.Assign [.Name y py] (.DictComp kx vx [⟨tg, iter, ifs, 0⟩] scope pos) spos) (tAsg (tDc wi g tt tk tv (own.map (·.2))) (gName i)) := by
  refine ⟨fun pins s σ H D I h => ?_⟩
  rw [exec_Assign_Name_used _ _ _ _ hsw]
  refine wpAny_bind (wpAny_standAt (wpAny_bind ?_))
  show wpAny _ X.A (do let _ ← comprehension (.DictComp kx vx [⟨tg, iter, ifs, 0⟩] scope pos) scope X.env (firstIterPos [⟨tg, iter, ifs, 0⟩] pos) newDict false (eval iter X.env) (some (assign (.Name y py) X.env))) _ _ s
  have h : tDc wi g tt tk tv (own.map (·.2)) σ H (fun x H1 => gName i x σ H1 D.nx) := h
  refine wpAny_bind (thn (dc_core (Qf := fun _ s' => SP X pins D .next s') hc hN I hi ok hg ht hk he hs h fun L C s' m H' I' q hn f => ?_) fun _ s' hq => wpAny_pure (wpAny_pure hq))
  show wpAny _ _ (assign (.Name y py) X.env (.ref L)) _ _ _
  refine wpAny_assign_Name (store_ok2 (v := V.ref L) I' hN hy (.inl hyl) rfl (fun s2 I2 ⟨a, sb, ha⟩ => ?_) (.inr hyl))
  obtain ⟨f0, f1, f2, f3, f4, f5⟩ := f
  have haC : C ≠ a := by
    rcases ha with z | z
    · rw [z]; exact f1
    · exact fun e => f4 y a z e.symm
  refine ⟨m, hn.sameBut sb haC, fun h3 sb3 => ?_⟩
  exact ⟨_, H', I2.turned (t' := s2.toks) (fun b o hb e => (sb3.2 b hb).trans e) f0 f1 f3 f4 f5, q⟩
theorem sw_trueD {kx vx : Expr} {gs : List Comprehension} {scope : Scope} {pos py : Pos} {y : Str} {l : Nat} {env : Env} (hk : env.scope.kind = .function) (hy : env.scope.names.lookup y = some .local) (hl : (py.line == pos.line) = true)
    (ha : (scope.names.any fun (n, k) => n == y && (k == .local || k == .cell)) = false) : swapsWith (.DictComp kx vx gs scope pos) (some (.Name y py)) l env = pure true := by
  have ky : env.kindOf y = some .local := hy
  have hb : env.blockKind = .function := by unfold Env.blockKind; rw [hk]; rfl
  unfold swapsWith
  simp only [hb, ky, ha, Expr.pos, hl]
  rfl
end
end L2
namespace Rd
open PySem PySem.Spec PyProof.Rows L2
variable {K : PySem.W.Frag} {σ : L2.St} {H : Hp} {D : Ends} {Q : VK} {ta tb te tc td ty tx : TE} {x y v : V}
/-- a dict of ints to values, in order -/
abbrev DI (m : List (Int × V)) : HO := .dK (m.map fun p => (Sum.inl p.1, p.2))
def lk (m : List (Int × V)) (k : Int) : Option V := (m.find? fun p => decide (p.1 = k)).map (·.2)
def pt (m : List (Int × V)) (k : Int) (v : V) : List (Int × V) := if (m.any fun p => decide (p.1 = k)) = true then m.map (fun p => if p.1 = k then (p.1, v) else p) else m ++ [(k, v)]
theorem valV_di (m : List (Int × V)) (k : Int) : valV (m.map fun p => ((Sum.inl p.1 : Key), p.2)) (Sum.inl k) = lk m k := by
  unfold valV lk
  induction m with
  | nil => rfl
  | cons a r ih =>
    rw [List.map_cons, List.find?_cons, List.find?_cons]
    by_cases h : a.1 = k
    · have e : decide ((Sum.inl a.1 : Key) = Sum.inl k) = true := decide_eq_true (by rw [h])
      rw [e, decide_eq_true h]; rfl
    · have e : decide ((Sum.inl a.1 : Key) = Sum.inl k) = false := decide_eq_false fun z => h (Sum.inl.inj z)
      rw [e, decide_eq_false h]; exact ih
theorem putK_di (m : List (Int × V)) (k : Int) (v : V) : putK (m.map fun p => ((Sum.inl p.1 : Key), p.2)) (Sum.inl k) v = (pt m k v).map fun p => ((Sum.inl p.1 : Key), p.2) := by
  have e : ∀ p : Int × V, decide ((Sum.inl p.1 : Key) = Sum.inl k) = decide (p.1 = k) := fun p => by
    by_cases h : p.1 = k
    · rw [decide_eq_true h, decide_eq_true (by rw [h])]
    · rw [decide_eq_false h, decide_eq_false fun z => h (Sum.inl.inj z)]
  unfold putK pt
  rw [List.any_map]
  have e2 : (m.any ((fun kv : Key × V => decide (kv.1 = Sum.inl k)) ∘ fun p => ((Sum.inl p.1 : Key), p.2))) = m.any fun p => decide (p.1 = k) := by
    congr 1; funext p; exact e p
  rw [e2]
  split
  · rw [List.map_map, List.map_map]
    congr 1; funext p
    show (if (Sum.inl p.1 : Key) = Sum.inl k then ((Sum.inl p.1 : Key), v) else (Sum.inl p.1, p.2)) = _
    by_cases h : p.1 = k
    · simp [h]
    · have h2 : ¬ (Sum.inl p.1 : Key) = Sum.inl k := fun z => h (Sum.inl.inj z)
      simp [h]
  · rw [List.map_append]; rfl
theorem get_di {a : Addr} {m : List (Int × V)} {k : Int} (h : Rd H a (DI m)) : DGet H a (.int k) (lk m k) := .inl ⟨_, Sum.inl k, h, rfl, (valV_di m k).symm⟩
theorem rd_of {a : Addr} {u : HO} (h : H a = some u) : L2.Rd H a u := .inl h
theorem rd_fz {a : Addr} {u : HO} {o : Obj} (h : H a = some (.frz o u)) : L2.Rd H a u := .inr ⟨o, h⟩
theorem lk_pt (m : List (Int × V)) (k k' : Int) (v : V) : lk (pt m k v) k' = if k' = k then some v else lk m k' := by
  unfold pt
  split
  · rename_i c
    unfold lk
    induction m with
    | nil => simp at c
    | cons a r ih =>
      rw [List.map_cons, List.find?_cons, List.find?_cons]
      by_cases h : a.1 = k
      · rw [if_pos h]
        by_cases h2 : k' = k
        · rw [if_pos h2, decide_eq_true (by rw [h, h2])]; rfl
        · have e : ¬ a.1 = k' := fun z => h2 (by rw [← z, h])
          rw [if_neg h2, decide_eq_false e]
          have e2 : List.map (fun p => if p.1 = k then (p.1, v) else p) r = List.map (fun p => if p.1 = k then (p.1, v) else p) r := rfl
          have : (List.find? (fun p => decide (p.1 = k')) (List.map (fun p => if p.1 = k then (p.1, v) else p) r)).map (·.2) = (List.find? (fun p => decide (p.1 = k')) r).map (·.2) := by
            clear ih c e2
            induction r with
            | nil => rfl
            | cons b r ih =>
              rw [List.map_cons, List.find?_cons, List.find?_cons]
              by_cases h3 : b.1 = k
              · rw [if_pos h3, decide_eq_false (fun z : b.1 = k' => h2 (by rw [← z, h3]))]; exact ih
              · rw [if_neg h3]
                by_cases h4 : b.1 = k'
                · rw [decide_eq_true h4]
                · rw [decide_eq_false h4]; exact ih
          exact this
      · rw [if_neg h]
        have c2 : (r.any fun p => decide (p.1 = k)) = true := by
          rw [List.any_cons, decide_eq_false h, Bool.false_or] at c; exact c
        by_cases h4 : a.1 = k'
        · have e : ¬ k' = k := fun z => h (by rw [h4, z])
          rw [decide_eq_true h4, if_neg e]
        · rw [decide_eq_false h4]; exact ih c2
  · rename_i c
    unfold lk
    rw [List.find?_append]
    have nk : ∀ p ∈ m, ¬ p.1 = k := fun p hp z => c (List.any_eq_true.mpr ⟨p, hp, decide_eq_true z⟩)
    by_cases h2 : k' = k
    · rw [if_pos h2, h2]
      have e : List.find? (fun p => decide (p.1 = k)) m = none := List.find?_eq_none.mpr fun p hp z => nk p hp (of_decide_eq_true z)
      rw [e]; simp
    · rw [if_neg h2]
      have e : ¬ k = k' := fun z => h2 z.symm
      have e2 : List.find? (fun p : Int × V => decide (p.1 = k')) [(k, v)] = none := by simp [e]
      rw [e2, Option.or_none]
theorem pt_len {m : List (Int × V)} {k : Int} {v : V} : (pt m k v).length ≤ m.length + 1 := by
  unfold pt
  split <;> simp
/-! ### expressions -/
def NewD (Q : VK) (H : Hp) : Prop := ∀ p, H p = none → Q (.ref p) (upd H p (.dK []))
theorem dnew (h : NewD Q H) : tDNewK σ H Q := h
theorem nwD (h : ∀ p H', H p = none → Same H H' → H' p = some (DI []) → Q (.ref p) H') : NewD Q H := fun p np => h p _ np (same_new np) upd_same
def DinG (Q : VK) (x y : V) (H : Hp) : Prop := ∃ a o, x = .ref a ∧ DGet H a y o ∧ Q (.bl o.isSome) H
theorem din (h : ty σ H fun y H1 => td σ H1 fun x H2 => DinG Q x y H2) : tDIn ty td σ H Q := h
theorem dinI {a : Addr} {m : List (Int × V)} {k : Int} (h : L2.Rd H a (DI m)) (q : Q (.bl (lk m k).isSome) H) : DinG Q (.ref a) (.int k) H := ⟨a, _, rfl, get_di h, q⟩
def DnotG (Q : VK) (x y : V) (H : Hp) : Prop := ∃ a o, x = .ref a ∧ DGet H a y o ∧ Q (.bl (!o.isSome)) H
theorem dnot (h : ty σ H fun y H1 => td σ H1 fun x H2 => DnotG Q x y H2) : tDNotIn ty td σ H Q := h
theorem dnotI {a : Addr} {m : List (Int × V)} {k : Int} (h : L2.Rd H a (DI m)) (q : Q (.bl (!(lk m k).isSome)) H) : DnotG Q (.ref a) (.int k) H := ⟨a, _, rfl, get_di h, q⟩
def DgG (Q : VK) (x y : V) (H : Hp) : Prop := ∃ a v, x = .ref a ∧ DGet H a y (some v) ∧ Q v H
theorem dget (h : td σ H fun x H1 => ty σ H1 fun y H2 => DgG Q x y H2) : tDGet td ty σ H Q := h
theorem dgetI {a : Addr} {m : List (Int × V)} {k : Int} (h : L2.Rd H a (DI m)) (e : lk m k = some v) (q : Q v H) : DgG Q (.ref a) (.int k) H := ⟨a, v, rfl, e ▸ get_di h, q⟩
def Dg2G (Q : VK) (a : Addr) (y z : V) (H : Hp) : Prop := ∃ o, DGet H a y o ∧ Q (o.getD z) H
theorem dget2 (h : td σ H fun x H1 => ∃ a, x = .ref a ∧ IsD H1 a ∧ ty σ H1 fun y H2 => tx σ H2 fun z H3 => Dg2G Q a y z H3) : tDGet2 td ty tx σ H Q := h
theorem isd {a : Addr} {m : List (Int × V)} {A : Prop} (h : H a = some (DI m)) (q : A) : IsD H a ∧ A := ⟨.inl ⟨_, .inl h⟩, q⟩
theorem dget2I {a : Addr} {m : List (Int × V)} {k : Int} {z : V} (h : L2.Rd H a (DI m)) (q : Q ((lk m k).getD z) H) : Dg2G Q a (.int k) z H := ⟨_, get_di h, q⟩
def DpG (D : Ends) (σ : L2.St) (x y v : V) (H : Hp) : Prop := ∃ a H4, x = .ref a ∧ DPut H a y v H4 ∧ D.nx σ H4
theorem dput {tv : TE} (h : tv σ H fun v H1 => td σ H1 fun x H2 => ty σ H2 fun y H3 => DpG D σ x y v H3) : sDPut td ty tv D σ H := h
theorem dputI {a : Addr} {m : List (Int × V)} {k : Int} (h : H a = some (DI m)) (l : m.length < 100000) (q : D.nx σ (upd H a (DI (pt m k v)))) : DpG D σ (.ref a) (.int k) v H :=
  ⟨a, _, rfl, .inl ⟨_, Sum.inl k, h, rfl, by rw [List.length_map]; exact szl l, rfl⟩, by rw [putK_di]; exact q⟩
/-- dict(d) -/
def DictOf (Q : VK) (vs : List V) (H : Hp) : Prop := ∃ (a : Addr) (kvs : List (Key × V)), vs = [.ref a] ∧ L2.Rd H a (.dK kvs) ∧ ∀ p, H p = none → Q (.ref p) (upd H p (.dK kvs))
theorem cbDictOf {tr : TA} (h : tr σ H (DictOf Q)) : tCB (fun xs H Q => ∃ (a : Addr) (kvs : List (Key × V)), xs = [.ref a] ∧ L2.Rd H a (.dK kvs) ∧ ∀ p, H p = none → Q (.ref p) (upd H p (.dK kvs))) tr σ H Q := h
theorem dictOf {a : Addr} {m : List (Int × V)} (s : H a = some (DI m)) (h : ∀ p H', H p = none → Same H H' → H' p = some (DI m) → Q (.ref p) H') : DictOf Q [.ref a] H := ⟨a, _, rfl, .inl s, fun p np => h p _ np (same_new np) upd_same⟩
theorem isi_dd {n : Addr} {m : List (Int × V)} (h : H n = some (DI m)) (q : Q (.bl true) H) : rIsi K [.ref n, .ty "dict"] H Q := isi (.base (.dK h)) (by decide +kernel) q
/-! ### == -/
theorem neDict {a b : Addr} {m n : List (Int × V)} (ea : H a = some (DI m)) (eb : H b = some (DI n)) (l : m.length = n.length) (e : ∀ p ∈ m, lk n p.1 = some p.2 ∧ flatB p.2 = true) (q : Q (.bl false) H) : rNeDA (.ref a) (.ref b) H Q :=
  ⟨a, b, _, _, rfl, rfl, ea, eb, by rw [List.length_map, List.length_map]; exact l, fun p hp => by
    obtain ⟨x, hx, rfl⟩ := List.mem_map.mp hp
    rw [valV_di]; exact e x hx, q⟩
theorem eqDict {a b : Addr} {m n : List (Int × V)} (ea : H a = some (DI m)) (eb : H b = some (DI n)) (l : m.length = n.length) (e : ∀ p ∈ m, lk n p.1 = some p.2 ∧ flatB p.2 = true) (q : Q (.bl true) H) : rEqDA (.ref a) (.ref b) H Q :=
  ⟨a, b, _, _, rfl, rfl, ea, eb, by rw [List.length_map, List.length_map]; exact l, fun p hp => by
    obtain ⟨x, hx, rfl⟩ := List.mem_map.mp hp
    rw [valV_di]; exact e x hx, q⟩
/-! ### walks -/
variable {R : It → Hp → Prop}
theorem iitems (h : te σ H fun x H1 => ∃ d o kvs, x = .ref d ∧ H1 d = some (.frz o (.dK kvs)) ∧ R (Iti d o kvs) H1) : iItems te σ H R := h
theorem itA {d : Addr} {o : Obj} {kvs : List (Key × V)} {P : Addr → Obj → List (Key × V) → Prop} (h : H d = some (.frz o (.dK kvs))) (q : P d o kvs) : ∃ d' o' kvs', V.ref d = .ref d' ∧ H d' = some (.frz o' (.dK kvs')) ∧ P d' o' kvs' := ⟨d, o, kvs, rfl, h, q⟩
theorem ikeys (h : te σ H fun x H1 => ∃ d o, x = .ref d ∧ ((∃ kvs, H1 d = some (.frz o (.dK kvs)) ∧ R (Itk d o kvs) H1) ∨ ∃ kvs, H1 d = some (.frz o (.dT kvs)) ∧ R (Itkt d o kvs) H1)) : iKeys te σ H R := h
theorem ikA {d : Addr} {o : Obj} {kvs : List (Key × V)} {P : Addr → Obj → List (Key × V) → Prop} {B : Addr → Obj → Prop} (h : H d = some (.frz o (.dK kvs))) (q : P d o kvs) : ∃ d' o', V.ref d = .ref d' ∧ ((∃ kvs', H d' = some (.frz o' (.dK kvs')) ∧ P d' o' kvs') ∨ B d' o') := ⟨d, o, rfl, .inl ⟨kvs, h, q⟩⟩
theorem lockS {t : TS} {d : Addr} {m : List (Int × V)} (h : H d = some (DI m)) (q : ∀ od, t ⟨fun σ' H' => H' d = some (.frz od (DI m)) ∧ D.nx σ' (upd H' d (DI m)), fun v H' => H' d = some (.frz od (DI m)) ∧ D.rt v (upd H' d (DI m)), fun σ' H' => H' d = some (.frz od (DI m)) ∧ D.bk σ' (upd H' d (DI m)), fun σ' H' => H' d = some (.frz od (DI m)) ∧ D.ct σ' (upd H' d (DI m))⟩ σ (upd H d (.frz od (DI m)))) : tLock t D σ H :=
  ⟨d, _, h, trivial, q⟩
theorem lockE {t : TE} {d : Addr} {m : List (Int × V)} (h : H d = some (DI m)) (q : ∀ od, t σ (upd H d (.frz od (DI m))) fun v H' => H' d = some (.frz od (DI m)) ∧ Q v (upd H' d (DI m))) : tLockE t σ H Q := ⟨d, _, h, trivial, q⟩
/-- the dict given back: all is kept -/
theorem unlock {H' : Hp} {d : Addr} {u : HO} (h : H d = some u) (b : But d H H') : Same H (upd H' d u) := fun c o e => by
  by_cases z : c = d
  · subst z; rw [upd_same]; exact h.symm.trans e
  · rw [upd_ne z]; exact b c o z e
theorem lock {d : Addr} {u : HO} : But d H (upd H d u) := But.at_
/-- the i-th pair of a walk over items: a new tuple -/
theorem items_at {m : List (Int × V)} {i : Nat} {x : V} {H H' : Hp} (y : YPair (fun i => ((m.map fun p => ((Sum.inl p.1 : Key), p.2))[i]?).map fun kv => kV kv.1) (fun i => ((m.map fun p => ((Sum.inl p.1 : Key), p.2))[i]?).map Prod.snd) i H x H') :
    ∃ (T : Addr) (p : Int × V), m[i]? = some p ∧ x = .ref T ∧ H T = none ∧ H' = upd H T (.tup [.int p.1, p.2]) := by
  obtain ⟨T, a, b, e1, e2, e3, e4, e5⟩ := y
  dsimp only at e4 e5
  rw [List.getElem?_map] at e4 e5
  cases e : m[i]? with
  | none => rw [e] at e4; cases e4
  | some p =>
    rw [e] at e4 e5
    cases e4; cases e5
    exact ⟨T, p, rfl, e1, e2, e3⟩
theorem keys_at {m : List (Int × V)} {i : Nat} {x : V} {H H' : Hp} (y : H' = H ∧ ∃ k v, (m.map fun p => ((Sum.inl p.1 : Key), p.2))[i]? = some (k, v) ∧ x = kV k) : H' = H ∧ ∃ p : Int × V, m[i]? = some p ∧ x = .int p.1 := by
  obtain ⟨e, k, v, h, rfl⟩ := y
  rw [List.getElem?_map] at h
  cases e2 : m[i]? with
  | none => rw [e2] at h; cases h
  | some p => rw [e2] at h; cases h; exact ⟨e, p, rfl, rfl⟩
/-! ### comprehensions -/
theorem dc {wi : TI} {g : TG} {tt : TT} {tk tv : TE} {ws : List Nat} (h : wi σ H fun J H1 => ∀ D, H1 D = none → ∃ W : Nat → Nat → Hp → Prop, (∃ m, W 0 m (upd H1 D (.dK []))) ∧ ∀ i m H, W i m H →
  (J.stop i H ∧ Q (.ref D) H) ∨ (J.go i H ∧ ∃ Nx : Hp → Prop, (∀ H', Nx H' → ∃ m', m' < m ∧ W (i + 1) m' H') ∧ ∀ x H', J.yld i H x H' → g x (wipe σ ws) H' fun σ2 H2 => wipe σ2 ws = wipe σ ws ∧ tt σ2 H2 fun b H3 =>
    if b = true then tk σ2 H3 fun y H4 => tv σ2 H4 fun z H5 => ∃ kvs k, y = kV k ∧ H5 D = some (.dK kvs) ∧ kvs.length < sizeLine ∧ Nx (upd H5 D (.dK (putK kvs k z))) else Nx H3)) : tDc wi g tt tk tv ws σ H Q := h
theorem dc_it {J : It} {n : Nat} {G : Hp → Prop} {Y : Nat → Hp → V → Hp → Prop} (w : Walk J n G Y) {g : TG} {tt : TT} {tk tv : TE} {vs : List Nat} {H1 : Hp} {d : Addr} {Qd : Hp → Prop} (Pv : Nat → Hp → Prop) (h0 : Pv 0 (upd H1 d (DI []))) (hG : ∀ i H, i ≤ n → Pv i H → G H)
    (hs : ∀ i x H H' (Kt : V → V → Hp → Prop) (Kn : Hp → Prop), i < n → Pv i H → Y i H x H' → (∀ m k z H5, H5 d = some (DI m) → m.length < 100000 → Pv (i + 1) (upd H5 d (DI (pt m k z))) → Kt (.int k) z H5) → (∀ H3, Pv (i + 1) H3 → Kn H3) →
      g x (wipe σ vs) H' fun σ2 H2 => wipe σ2 vs = wipe σ vs ∧ tt σ2 H2 fun b H3 => if b = true then tk σ2 H3 fun y H4 => tv σ2 H4 fun z H5 => Kt y z H5 else Kn H3)
    (hd : ∀ H, Pv n H → Qd H) :
    ∃ W : Nat → Nat → Hp → Prop, (∃ m, W 0 m (upd H1 d (.dK []))) ∧ ∀ i m H, W i m H →
      (J.stop i H ∧ Qd H) ∨ (J.go i H ∧ ∃ Nx : Hp → Prop, (∀ H', Nx H' → ∃ m', m' < m ∧ W (i + 1) m' H') ∧ ∀ x H', J.yld i H x H' → g x (wipe σ vs) H' fun σ2 H2 => wipe σ2 vs = wipe σ vs ∧ tt σ2 H2 fun b H3 =>
        if b = true then tk σ2 H3 fun y H4 => tv σ2 H4 fun z H5 => ∃ kvs k, y = kV k ∧ H5 d = some (.dK kvs) ∧ kvs.length < sizeLine ∧ Nx (upd H5 d (.dK (putK kvs k z))) else Nx H3) := by
  refine ⟨fun i m H => m = n - i ∧ i ≤ n ∧ Pv i H, ⟨n, by simp, Nat.zero_le _, h0⟩, ?_⟩
  rintro i m H ⟨rfl, hi, p⟩
  have q := hG i H hi p
  by_cases hlt : i < n
  · refine .inr ⟨w.goes i H hlt q, Pv (i + 1), fun H' p' => ⟨n - (i + 1), by omega, rfl, hlt, p'⟩, fun x H' y => ?_⟩
    exact hs i x H H' (fun y z H5 => ∃ kvs k, y = kV k ∧ H5 d = some (.dK kvs) ∧ kvs.length < sizeLine ∧ Pv (i + 1) (upd H5 d (.dK (putK kvs k z)))) _ hlt p (w.yields i H x H' hlt q y)
      (fun m k z H5 h5 hl r => ⟨_, Sum.inl k, rfl, h5, by rw [List.length_map]; exact szl hl, by rw [putK_di]; exact r⟩) fun _ h => h
  · have e : i = n := by omega
    subst e
    exact .inl ⟨w.stops H q, hd H p⟩
end Rd

set_option Elab.async false
set_option linter.all false
set_option maxRecDepth 100000
/-! dicts from ints to ints -/
namespace Rd
open PySem PySem.Spec PyProof.Rows L2
abbrev iv (p : Int × Int) : Int × V := (p.1, V.int p.2)
abbrev DN (m : List (Int × Int)) : HO := DI (m.map iv)
def lkN (m : List (Int × Int)) (k : Int) : Option Int := (m.find? fun p => decide (p.1 = k)).map (·.2)
def ptN (m : List (Int × Int)) (k v : Int) : List (Int × Int) := if (m.any fun p => decide (p.1 = k)) = true then m.map (fun p => if p.1 = k then (p.1, v) else p) else m ++ [(k, v)]
theorem lk_iv (m : List (Int × Int)) (k : Int) : lk (m.map iv) k = (lkN m k).map V.int := by
  unfold lk lkN
  induction m with
  | nil => rfl
  | cons a r ih =>
    rw [List.map_cons, List.find?_cons, List.find?_cons]
    by_cases h : a.1 = k
    · have e : decide ((iv a).1 = k) = true := decide_eq_true h
      rw [e]; rfl
    · have e : decide ((iv a).1 = k) = false := decide_eq_false h
      rw [e]; exact ih
theorem pt_iv (m : List (Int × Int)) (k v : Int) : pt (m.map iv) k (.int v) = (ptN m k v).map iv := by
  unfold pt ptN
  rw [List.any_map]
  have e2 : (m.any ((fun p : Int × V => decide (p.1 = k)) ∘ iv)) = m.any fun p => decide (p.1 = k) := rfl
  rw [e2]
  split
  · rw [List.map_map, List.map_map]
    congr 1; funext p
    show (if p.1 = k then (p.1, V.int v) else iv p) = iv (if p.1 = k then (p.1, v) else p)
    split <;> rfl
  · rw [List.map_append]; rfl
theorem lkN_some {m : List (Int × Int)} {k v : Int} (h : lkN m k = some v) : (k, v) ∈ m := by
  unfold lkN at h
  cases e : m.find? fun p => decide (p.1 = k) with
  | none => rw [e] at h; cases h
  | some p =>
    rw [e] at h
    have h1 : p.2 = v := Option.some.inj h
    have h2 : p.1 = k := by have := List.find?_some e; simpa using this
    rw [← h1, ← h2]
    exact List.mem_of_find?_eq_some e
theorem lkN_mem {m : List (Int × Int)} (nd : (m.map (·.1)).Nodup) {k v : Int} (h : (k, v) ∈ m) : lkN m k = some v := by
  induction m with
  | nil => cases h
  | cons a r ih =>
    rw [List.map_cons, List.nodup_cons] at nd
    unfold lkN
    rw [List.find?_cons]
    rcases List.mem_cons.mp h with e | h
    · subst e; rw [decide_eq_true rfl]; rfl
    · have ne : ¬ a.1 = k := fun z => nd.1 (z ▸ List.mem_map.mpr ⟨_, h, rfl⟩)
      rw [decide_eq_false ne]; exact ih nd.2 h
theorem lkN_none {m : List (Int × Int)} {k : Int} : lkN m k = none ↔ k ∉ m.map (·.1) := by
  unfold lkN
  rw [Option.map_eq_none_iff, List.find?_eq_none]
  constructor
  · intro h z
    obtain ⟨p, hp, e⟩ := List.mem_map.mp z
    exact h p hp (decide_eq_true e)
  · intro h p hp e
    exact h (List.mem_map.mpr ⟨p, hp, of_decide_eq_true e⟩)
theorem any_key {m : List (Int × Int)} {k : Int} : (m.any fun p => decide (p.1 = k)) = true ↔ k ∈ m.map (·.1) := by
  rw [List.any_eq_true]
  constructor
  · rintro ⟨p, hp, e⟩; exact List.mem_map.mpr ⟨p, hp, of_decide_eq_true e⟩
  · intro h
    obtain ⟨p, hp, e⟩ := List.mem_map.mp h
    exact ⟨p, hp, decide_eq_true e⟩
theorem ptN_new {m : List (Int × Int)} {k v : Int} (h : k ∉ m.map (·.1)) : ptN m k v = m ++ [(k, v)] := by
  unfold ptN
  rw [if_neg (fun z => h (any_key.mp z))]
theorem ptN_len {m : List (Int × Int)} {k v : Int} : (ptN m k v).length ≤ m.length + 1 := by
  unfold ptN
  split <;> simp
theorem ptN_mem {m : List (Int × Int)} {k v : Int} {p : Int × Int} (h : p ∈ ptN m k v) : p = (k, v) ∨ (p ∈ m ∧ p.1 ≠ k) := by
  unfold ptN at h
  split at h
  · obtain ⟨q, hq, rfl⟩ := List.mem_map.mp h
    by_cases e : q.1 = k
    · rw [if_pos e, e]; exact .inl rfl
    · rw [if_neg e]; exact .inr ⟨hq, e⟩
  · rename_i c
    rcases List.mem_append.mp h with h | h
    · exact .inr ⟨h, fun e => c (any_key.mpr (List.mem_map.mpr ⟨p, h, e⟩))⟩
    · exact .inl (List.mem_singleton.mp h)
theorem ptN_keys {m : List (Int × Int)} {k v : Int} (nd : (m.map (·.1)).Nodup) : ((ptN m k v).map (·.1)).Nodup := by
  by_cases h : k ∈ m.map (·.1)
  · unfold ptN
    rw [if_pos (any_key.mpr h), List.map_map]
    have e : (fun x => x.1) ∘ (fun p : Int × Int => if p.1 = k then (p.1, v) else p) = fun p => p.1 := by
      funext p; show (if p.1 = k then (p.1, v) else p).1 = p.1; split <;> rfl
    rw [e]; exact nd
  · rw [ptN_new h, List.map_append, List.nodup_append]
    exact ⟨nd, by simp, fun a ha b hb e => h (by simp at hb; rw [← hb, ← e]; exact ha)⟩
/-- a value put, against the rest and the value at the end -/
theorem ptN_rest {m : List (Int × Int)} {k v : Int} (nd : (m.map (·.1)).Nodup) : (ptN m k v).length = (m.filter fun p => decide (p.1 ≠ k)).length + 1 := by
  by_cases h : k ∈ m.map (·.1)
  · unfold ptN
    rw [if_pos (any_key.mpr h), List.length_map]
    clear v
    induction m with
    | nil => simp at h
    | cons a r ih =>
      rw [List.map_cons, List.nodup_cons] at nd
      by_cases e : a.1 = k
      · have e2 : (r.filter fun p => decide (p.1 ≠ k)) = r := List.filter_eq_self.mpr fun p hp => decide_eq_true fun z => nd.1 (by rw [e, ← z]; exact List.mem_map.mpr ⟨p, hp, rfl⟩)
        rw [List.filter_cons_of_neg (by simp [e]), e2]; rfl
      · have h2 : k ∈ r.map (·.1) := by
          rw [List.map_cons] at h
          exact (List.mem_cons.mp h).resolve_left fun z => e z.symm
        rw [List.filter_cons_of_pos (by simp [e]), List.length_cons, List.length_cons, ih nd.2 h2]
  · have e2 : (m.filter fun p => decide (p.1 ≠ k)) = m := List.filter_eq_self.mpr fun p hp => decide_eq_true fun z => h (by rw [← z]; exact List.mem_map.mpr ⟨p, hp, rfl⟩)
    rw [ptN_new h, e2]; simp
variable {K : PySem.W.Frag} {σ : L2.St} {H : Hp} {D : Ends} {Q : VK} {v : V}
theorem dinN {a : Addr} {m : List (Int × Int)} {k : Int} (h : L2.Rd H a (DN m)) (q : Q (.bl (lkN m k).isSome) H) : DinG Q (.ref a) (.int k) H := dinI h (by rw [lk_iv, Option.isSome_map]; exact q)
theorem dnotN {a : Addr} {m : List (Int × Int)} {k : Int} (h : L2.Rd H a (DN m)) (q : Q (.bl (!(lkN m k).isSome)) H) : DnotG Q (.ref a) (.int k) H := dnotI h (by rw [lk_iv, Option.isSome_map]; exact q)
theorem dgetN {a : Addr} {m : List (Int × Int)} {k n : Int} (h : L2.Rd H a (DN m)) (e : lkN m k = some n) (q : Q (.int n) H) : DgG Q (.ref a) (.int k) H := dgetI h (by rw [lk_iv, e]; rfl) q
theorem dget2N {a : Addr} {m : List (Int × Int)} {k z : Int} (h : L2.Rd H a (DN m)) (q : Q (.int ((lkN m k).getD z)) H) : Dg2G Q a (.int k) (.int z) H := dget2I h (by
  rw [lk_iv]
  cases e : lkN m k with
  | none => rw [e] at q; exact q
  | some n => rw [e] at q; exact q)
theorem dputN {a : Addr} {m : List (Int × Int)} {k n : Int} (h : H a = some (DN m)) (l : m.length < 100000) (q : D.nx σ (upd H a (DN (ptN m k n)))) : DpG D σ (.ref a) (.int k) (.int n) H :=
  dputI h (by rw [List.length_map]; exact l) (by rw [pt_iv]; exact q)
theorem neDictN {a b : Addr} {m n : List (Int × Int)} (ea : H a = some (DN m)) (eb : H b = some (DN n)) (l : m.length = n.length) (e : ∀ p ∈ m, lkN n p.1 = some p.2) (q : Q (.bl false) H) : rNeDA (.ref a) (.ref b) H Q :=
  neDict ea eb (by rw [List.length_map, List.length_map]; exact l) (fun p hp => by
    obtain ⟨x, hx, rfl⟩ := List.mem_map.mp hp
    exact ⟨by rw [lk_iv, e x hx]; rfl, rfl⟩) q
theorem eqDictN {a b : Addr} {m n : List (Int × Int)} (ea : H a = some (DN m)) (eb : H b = some (DN n)) (l : m.length = n.length) (e : ∀ p ∈ m, lkN n p.1 = some p.2) (q : Q (.bl true) H) : rEqDA (.ref a) (.ref b) H Q :=
  eqDict ea eb (by rw [List.length_map, List.length_map]; exact l) (fun p hp => by
    obtain ⟨x, hx, rfl⟩ := List.mem_map.mp hp
    exact ⟨by rw [lk_iv, e x hx]; rfl, rfl⟩) q
theorem items_atN {m : List (Int × Int)} {i : Nat} {x : V} {H H' : Hp} (y : YPair (fun i => (((m.map iv).map fun p => ((Sum.inl p.1 : Key), p.2))[i]?).map fun kv => kV kv.1) (fun i => (((m.map iv).map fun p => ((Sum.inl p.1 : Key), p.2))[i]?).map Prod.snd) i H x H') :
    ∃ (T : Addr) (p : Int × Int), m[i]? = some p ∧ x = .ref T ∧ H T = none ∧ H' = upd H T (.tup [.int p.1, .int p.2]) := by
  obtain ⟨T, p, e, a, b, c⟩ := items_at y
  rw [List.getElem?_map] at e
  cases e2 : m[i]? with
  | none => rw [e2] at e; cases e
  | some q => rw [e2] at e; cases e; exact ⟨T, q, rfl, a, b, c⟩
theorem keys_atN {m : List (Int × Int)} {i : Nat} {x : V} {H H' : Hp} (y : H' = H ∧ ∃ k v, ((m.map iv).map fun p => ((Sum.inl p.1 : Key), p.2))[i]? = some (k, v) ∧ x = kV k) : H' = H ∧ ∃ p : Int × Int, m[i]? = some p ∧ x = .int p.1 := by
  obtain ⟨e0, p, e, a⟩ := keys_at y
  rw [List.getElem?_map] at e
  cases e2 : m[i]? with
  | none => rw [e2] at e; cases e
  | some q => rw [e2] at e; cases e; exact ⟨e0, q, rfl, a⟩
end Rd

set_option Elab.async false
set_option linter.all false
set_option maxRecDepth 100000
namespace Rd
open PySem PySem.Spec PyProof.Rows L2
variable {K : PySem.W.Frag} {σ : L2.St} {H : Hp} {D : Ends} {Q : VK} {ta tb te tv : TE} {x y v : V} {tr : TA} {f m : Str} {C : Addr} {sp : Sp} {dvs : List V} {E : XK}
/-! ### objects of own classes -/
def FldG (K : PySem.W.Frag) (x : V) (f : Str) (Q : VK) (H : Hp) : Prop := ∃ a C dx fs v, x = .ref a ∧ H a = some (.ins C dx fs) ∧ Cls K C ∧ NoAttr K C f ∧ fs.lookup f = some v ∧ Q v H
theorem fld (h : te σ H fun x H1 => FldG K x f Q H1) : tFld K te f σ H Q := h
theorem fldI {a dx : Addr} {fs : List (Str × V)} (h : H a = some (.ins C dx fs)) (c : Cls K C) (n : NoAttr K C f) (e : fs.lookup f = some v) (q : Q v H) : FldG K (.ref a) f Q H := ⟨a, C, dx, fs, v, rfl, h, c, n, e, q⟩
def SfG (K : PySem.W.Frag) (x : V) (f : Str) (y : V) (D : Ends) (σ : L2.St) (H : Hp) : Prop := ∃ a C dx fs, x = .ref a ∧ H a = some (.ins C dx fs) ∧ Cls K C ∧ NoAttr K C f ∧ fs.length < 1000 ∧ D.nx σ (upd H a (.ins C dx (putF f y fs)))
theorem sfld (h : tv σ H fun y H1 => ta σ H1 fun x H2 => SfG K x f y D σ H2) : sFld K ta tv f D σ H := h
theorem sfldI {a dx : Addr} {fs : List (Str × V)} (h : H a = some (.ins C dx fs)) (c : Cls K C) (n : NoAttr K C f) (l : fs.length < 1000) (q : D.nx σ (upd H a (.ins C dx (putF f y fs)))) : SfG K (.ref a) f y D σ H := ⟨a, C, dx, fs, rfl, h, c, n, l, q⟩
def MtG (C : Addr) (m : Str) (sp : Sp) (dvs : List V) (E : XK) (t : TA) (σ : L2.St) (Q : VK) (x : V) (H : Hp) : Prop := ∃ a dx fs, x = .ref a ∧ H a = some (.ins C dx fs) ∧ fs.lookup m = none ∧ t σ H fun vs H2 => sp (x :: (vs ++ dvs)) H2 Q E
theorem meth (h : ta σ H fun x H1 => MtG C m sp dvs E tr σ Q x H1) : tMeth C m sp dvs E ta tr σ H Q := h
theorem methI {a dx : Addr} {fs : List (Str × V)} (h : H a = some (.ins C dx fs)) (n : fs.lookup m = none) (q : tr σ H fun vs H2 => sp (.ref a :: (vs ++ dvs)) H2 Q E) : MtG C m sp dvs E tr σ Q (.ref a) H := ⟨a, dx, fs, rfl, h, n, q⟩
def MkG (C : Addr) (sp : Sp) (dvs : List V) (E : XK) (Q : VK) (vs : List V) (H1 : Hp) : Prop := ∀ x dx, H1 x = none → H1 dx = none → dx ≠ x → sp (.ref x :: (vs ++ dvs)) (upd (upd H1 dx (.own x)) x (.ins C dx [])) (fun v H2 => v = .non ∧ Q (.ref x) H2) E
theorem make (h : tr σ H fun vs H1 => MkG C sp dvs E Q vs H1) : tMake C sp dvs E tr σ H Q := h
theorem popI {l : Addr} {xs : List V} (h : H l = some (.lst xs)) (e : xs[xs.length - 1]? = some y) (q : Q y (upd H l (.lst xs.dropLast))) : rPop (.ref l) [] H Q := ⟨l, xs, y, rfl, rfl, h, e, q⟩
theorem maxL {a : Addr} {ns : List Int} (h : H a = some (.lst (ns.map V.int))) (l : 0 < ns.length) (q : ∀ m, m ∈ ns → (∀ y, y ∈ ns → y ≤ m) → Q (.int m) H) : rMax K [.ref a] H Q := ⟨a, ns, rfl, SqL.of h, l, q⟩
theorem anyL {a : Addr} {bs : List Bool} (h : H a = some (.lst (bs.map V.bl))) (q : Q (.bl (bs.any id)) H) : rAny K [.ref a] H Q := ⟨a, bs, rfl, SqL.of h, q⟩
theorem sumL {a : Addr} {ns : List Int} (h : H a = some (.lst (ns.map V.int))) (q : Q (.int ns.sum) H) : rSum K [.ref a] H Q := ⟨a, ns, rfl, SqL.of h, q⟩
variable {R : It → Hp → Prop}
theorem izip (h : tr σ H fun vs H1 => ∃ a b xs ys, vs = [.ref a, .ref b] ∧ ((SqL K H1 a xs ∧ SqL K H1 b ys ∧ R (Itz K a b) H1) ∨ (SqT K H1 a xs ∧ SqT K H1 b ys ∧ R (RZ.ItzT K a b) H1))) : RZ.iZipA K tr σ H R := h
theorem izI {a b : Addr} {xs ys : List V} {A : Addr → Addr → Prop} {B : Addr → Addr → Prop} (h1 : H a = some (.lst xs)) (h2 : H b = some (.lst ys)) (q : A a b) : ∃ a' b' xs ys, [V.ref a, .ref b] = [.ref a', .ref b'] ∧ ((SqL K H a' xs ∧ SqL K H b' ys ∧ A a' b') ∨ (SqT K H a' xs ∧ SqT K H b' ys ∧ B a' b')) := ⟨a, b, xs, ys, rfl, .inl ⟨SqL.of h1, SqL.of h2, q⟩⟩
end Rd

set_option Elab.async false
set_option linter.all false
set_option maxRecDepth 100000
namespace L2
open PySem PySem.Spec PyProof.Rows
/-- max(xs, default=d) of a list of ints -/
def rMaxDf (K : PySem.W.Frag) : List V → List V → Hp → VK → Prop := fun vs zs H Q => ∃ (a : Addr) (ns : List Int) (d : V), vs = [V.ref a] ∧ zs = [d] ∧ SqL K H a (ns.map V.int) ∧ (ns = [] → Q d H) ∧ ∀ m, m ∈ ns → (∀ y ∈ ns, y ≤ m) → Q (.int m) H
theorem maxOf_spec (y : Int) (ys : List Int) : PySem.W.maxOf y ys ∈ y :: ys ∧ ∀ z ∈ y :: ys, z ≤ PySem.W.maxOf y ys := by
  unfold PySem.W.maxOf
  induction ys generalizing y with
  | nil => simp
  | cons b r ih =>
    obtain ⟨h1, h2⟩ := ih (if PySem.W.DatumOrd.lt y b = true then b else y)
    have e : (PySem.W.DatumOrd.lt y b = true) = (y < b) := by
      show (decide (y < b) = true) = (y < b)
      simp
    rw [List.foldl_cons]
    refine ⟨?_, fun z m => ?_⟩
    · rcases List.mem_cons.mp h1 with h | h
      · rw [h]
        split
        · exact List.mem_cons_of_mem _ List.mem_cons_self
        · exact List.mem_cons_self
      · exact List.mem_cons_of_mem _ (List.mem_cons_of_mem _ h)
    · have h0 := h2 _ List.mem_cons_self
      by_cases c : y < b
      · rw [if_pos (by rw [e]; exact c)] at h0 h2 ⊢
        rcases List.mem_cons.mp m with rfl | m
        · omega
        rcases List.mem_cons.mp m with rfl | m
        · exact h0
        · exact h2 z (List.mem_cons_of_mem _ m)
      · rw [if_neg (by rw [e]; exact c)] at h0 h2 ⊢
        rcases List.mem_cons.mp m with rfl | m
        · exact h0
        rcases List.mem_cons.mp m with rfl | m
        · omega
        · exact h2 z (List.mem_cons_of_mem _ m)
theorem cr_maxDf {X : Cx} (hc : X.calm = true) (hu : X.A.units + 65 < cLine) : CallRK X (.builtin "max") [Str.ofString "default"] (rMaxDf X.K) := by
  intro pins s σ H vs zs us ws Q I r rz h
  obtain ⟨a, ns, d, rfl, rfl, hs, h0, h1⟩ := h
  obtain ⟨its, rv, hl, _⟩ := I.list hs
  rw [Vals.ref1 r]
  cases rz with
  | cons rd rt =>
    rename_i ud ut
    cases rt
    show wpAny _ _ (call (.builtin "max") [.ref a] [(Str.ofString "default", ud)]) _ _ s
    refine PySem.W.max_list_datum_default (α := Int) (xs := ns) (I.ok.hd hc) hl.isList (PySem.W.HoldAll.of_ints rv.ints) (by show X.A.units + 1 + 0 < cLine; omega) (fun e h' tk hk => ⟨d, H, I.kept hk, rd, h0 e⟩) fun y ys i v h' tk e hi hv hk => ?_
    obtain ⟨as, rd2⟩ := hv
    subst e
    obtain ⟨m1, m2⟩ := maxOf_spec y ys
    generalize hm : PySem.W.maxOf y ys = m at *
    have rd3 : Reads h' v (.int m) as := rd2
    cases rd3
    exact ⟨.int m, H, I.kept hk, ⟨_, rfl⟩, h1 m m1 m2⟩
end L2
namespace Rd
open PySem PySem.Spec PyProof.Rows L2
variable {K : PySem.W.Frag} {σ : L2.St} {H : Hp} {D : Ends} {Q : VK} {td ty tx : TE} {x y v : V} {tr tk : TA}
def MxG (K : PySem.W.Frag) (Q : VK) (vs zs : List V) (H : Hp) : Prop := rMaxDf K vs zs H Q
theorem ckw {r : List V → List V → Hp → VK → Prop} (h : tr σ H fun vs H1 => tk σ H1 fun zs H2 => r vs zs H2 Q) : tCKw r tr tk σ H Q := h
theorem maxDf {a : Addr} {ns : List Int} {d : V} (h : H a = some (.lst (ns.map V.int))) (h0 : ns = [] → Q d H) (h1 : ∀ m, m ∈ ns → (∀ y ∈ ns, y ≤ m) → Q (.int m) H) : rMaxDf K [.ref a] [d] H Q := ⟨a, ns, d, rfl, rfl, SqL.of h, h0, h1⟩
def StG (a : Addr) (y z : V) (Q : VK) (H3 : Hp) : Prop := ∃ (kvs : List (Key × V)) (k : Key), H3 a = some (.dK kvs) ∧ y = kV k ∧ kvs.length < sizeLine ∧ (∀ v, valV kvs k = some v → Q v H3) ∧ (valV kvs k = none → Q z (upd H3 a (.dK (putK kvs k z))))
theorem dsetd (h : td σ H fun x H1 => ∃ a, x = .ref a ∧ IsD H1 a ∧ ty σ H1 fun y H2 => tx σ H2 fun z H3 => StG a y z Q H3) : tDSetd td ty tx σ H Q := h
theorem dsetdI {a : Addr} {m : List (Int × V)} {k : Int} {z : V} (h : H a = some (DI m)) (l : m.length < 100000) (h1 : ∀ v, lk m k = some v → Q v H) (h2 : lk m k = none → Q z (upd H a (DI (pt m k z)))) : StG a (.int k) z Q H :=
  ⟨_, Sum.inl k, h, rfl, by rw [List.length_map]; exact szl l, fun v e => h1 v (by rw [← valV_di]; exact e), fun e => by rw [putK_di]; exact h2 (by rw [← valV_di]; exact e)⟩
def DlG (D : Ends) (σ : L2.St) (x y : V) (H2 : Hp) : Prop := ∃ a kvs k, x = .ref a ∧ H2 a = some (.dK kvs) ∧ y = kV k ∧ (valV kvs k).isSome = true ∧ D.nx σ (upd H2 a (.dK (dropK kvs k)))
theorem ddel (h : td σ H fun x H1 => ty σ H1 fun y H2 => DlG D σ x y H2) : sDDel td ty D σ H := h
def dr (m : List (Int × V)) (k : Int) : List (Int × V) := m.filter fun p => !decide (p.1 = k)
theorem dropK_di (m : List (Int × V)) (k : Int) : dropK (m.map fun p => ((Sum.inl p.1 : Key), p.2)) (Sum.inl k) = (dr m k).map fun p => ((Sum.inl p.1 : Key), p.2) := by
  unfold dropK dr
  induction m with
  | nil => rfl
  | cons a r ih =>
    rw [List.map_cons, List.filter_cons, List.filter_cons, ih]
    by_cases h : a.1 = k <;> simp [h]
theorem lk_dr (m : List (Int × V)) (k k' : Int) : lk (dr m k) k' = if k' = k then none else lk m k' := by
  unfold lk dr
  induction m with
  | nil => simp
  | cons a r ih =>
    rw [List.filter_cons]
    by_cases h : a.1 = k
    · rw [if_neg (by simp [h]), ih]
      by_cases h2 : k' = k
      · rw [if_pos h2, if_pos h2]
      · rw [if_neg h2, if_neg h2, List.find?_cons, decide_eq_false (by rw [h]; exact fun z => h2 z.symm)]
    · rw [if_pos (by simp [h]), List.find?_cons]
      by_cases h3 : a.1 = k'
      · rw [decide_eq_true h3, if_neg (by rw [← h3]; exact h), List.find?_cons, decide_eq_true h3]
      · rw [decide_eq_false h3]
        rw [ih, List.find?_cons, decide_eq_false h3]
theorem ddelI {a : Addr} {m : List (Int × V)} {k : Int} (h : H a = some (DI m)) (e : (lk m k).isSome = true) (q : D.nx σ (upd H a (DI (dr m k)))) : DlG D σ (.ref a) (.int k) H :=
  ⟨a, _, Sum.inl k, rfl, h, rfl, by rw [valV_di]; exact e, by rw [dropK_di]; exact q⟩
end Rd

set_option Elab.async false
set_option linter.all false
set_option maxRecDepth 100000
namespace L2
open PySem PySem.Spec PyProof.Rows
def pD (p : Int × Int) : PyData := .tuple [.int p.1, .int p.2]
/-- pairs: first, then second -/
def ltPr (a b : Int × Int) : Prop := a.1 < b.1 ∨ (a.1 = b.1 ∧ a.2 < b.2)
theorem ltPr_iff (a b : Int × Int) : PySem.W.DatumOrd.lt a b = true ↔ ltPr a b := by
  show (if a.1 = b.1 then decide (a.2 < b.2) else decide (a.1 < b.1)) = true ↔ _
  unfold ltPr
  by_cases h : a.1 = b.1
  · rw [if_pos h, decide_eq_true_eq]; omega
  · rw [if_neg h, decide_eq_true_eq]; omega
theorem minOf_spec (y : Int × Int) (ys : List (Int × Int)) : ∀ z ∈ y :: ys, ¬ ltPr z (PySem.W.minOf y ys) := by
  unfold PySem.W.minOf
  induction ys generalizing y with
  | nil => intro z m; simp at m; subst m; unfold ltPr; simp only [List.foldl_nil]; omega
  | cons b r ih =>
    have ih2 := ih (if PySem.W.DatumOrd.lt b y = true then b else y)
    rw [List.foldl_cons]
    intro z m
    have h0 := ih2 _ List.mem_cons_self
    have hr : z ∈ r → ¬ ltPr z _ := fun m => ih2 z (List.mem_cons_of_mem _ m)
    generalize hM : List.foldl (fun a y => if PySem.W.DatumOrd.lt y a = true then y else a) (if PySem.W.DatumOrd.lt b y = true then b else y) r = M at *
    by_cases c : PySem.W.DatumOrd.lt b y = true
    · rw [if_pos c] at h0
      have c2 := (ltPr_iff b y).mp c
      rcases List.mem_cons.mp m with rfl | m
      · unfold ltPr at *; omega
      rcases List.mem_cons.mp m with rfl | m
      · exact h0
      · exact hr m
    · rw [if_neg c] at h0
      have c2 : ¬ ltPr b y := fun z => c ((ltPr_iff b y).mpr z)
      rcases List.mem_cons.mp m with rfl | m
      · exact h0
      rcases List.mem_cons.mp m with rfl | m
      · unfold ltPr at *; omega
      · exact hr m
theorem Vals.back : ∀ {xs : List V} {us : List Value} {i : Nat} {u : Value}, Vals xs us → us[i]? = some u → ∃ x, xs[i]? = some x ∧ RelV x u := fun {xs us i u} r h => by
  have l := r.length
  have hi := (List.getElem?_eq_some_iff.mp h).1
  obtain ⟨x, hx⟩ : ∃ x, xs[i]? = some x := ⟨_, List.getElem?_eq_getElem (by omega)⟩
  obtain ⟨u', hu', q⟩ := r.get hx
  rw [h] at hu'
  cases hu'
  exact ⟨x, hx, q⟩
/-- min(xs) of a list of pairs: the item itself -/
def rMinP (K : PySem.W.Frag) : List V → Hp → VK → Prop := fun vs H Q => ∃ (a : Addr) (xs : List V) (ps : List (Int × Int)), vs = [V.ref a] ∧ SqL K H a xs ∧ DpAll K H xs (ps.map pD) ∧ 0 < ps.length ∧
  ∀ (i : Nat) x m, xs[i]? = some x → ps[i]? = some m → (∀ y ∈ ps, ¬ ltPr y m) → Q x H
theorem cr_minP {X : Cx} (hc : X.calm = true) (hu : X.A.units + 65 < cLine) : CallR X (.builtin "min") (rMinP X.K) := by
  intro pins s σ H vs us Q I r h
  obtain ⟨a, xs, ps, rfl, hs, hd, hn, q⟩ := h
  obtain ⟨its, rv, hl, _⟩ := I.list hs
  rw [Vals.ref1 r]
  obtain ⟨as, ra⟩ := Dp.readsAll I _ xs its hd rv
  cases ps with
  | nil => simp at hn
  | cons p0 pr =>
    have HA : PySem.W.HoldAll s.heap its.toArray.toList (p0 :: pr) := ⟨as, show ReadsAll s.heap its.toArray.toList ((p0 :: pr).map pD) as by simpa using ra⟩
    refine PySem.W.min_list_datum (α := Int × Int) (I.ok.hd hc) hl.isList HA (by show X.A.units + 1 + 1 < cLine; omega) fun i v h' tk hi hv hk => ?_
    have hi2 : its.toArray.toList[i]? = some v := by simpa using hi
    obtain ⟨m, hm, Hm⟩ := HA.at hi2
    obtain ⟨x, hx, rx⟩ := rv.back (i := i) (u := v) (by simpa using hi)
    obtain ⟨b1, r1⟩ := Hm.keeps hk
    obtain ⟨b2, r2⟩ := hv
    have e : m = PySem.W.minOf p0 pr := by
      have e1 := (Reads.unique r1 _ _ r2).1
      have e2 : PyData.tuple [.int m.1, .int m.2] = PyData.tuple [.int (PySem.W.minOf p0 pr).1, .int (PySem.W.minOf p0 pr).2] := e1
      injection e2 with e3
      injection e3 with e4 e5
      injection e4 with e4
      injection e5 with e5 _
      injection e5 with e5
      exact Prod.ext e4 e5
    exact ⟨x, H, I.kept hk, rx, q i x m hx hm (by rw [e]; exact minOf_spec p0 pr)⟩
def rRemP (K : PySem.W.Frag) : V → List V → Hp → VK → Prop := fun x xs H Q => ∃ (l : Addr) (zs : List V) (ps : List (Int × Int)) (y : V) (k : Int × Int) (j : Nat), x = .ref l ∧ xs = [y] ∧ H l = some (.lst zs) ∧ DpAll K H zs (ps.map pD) ∧ Dp K H y (pD k) ∧ ps[j]? = some k ∧ (∀ m : Nat, m < j → ps[m]? ≠ some k) ∧ Q .non (upd H l (.lst (zs.eraseIdx j)))
theorem mt_removeP {X : Cx} (hu : X.A.units + 65 < cLine) : MtM X "list.remove" (rRemP X.K) := by
  intro pins s σ H x xs v us Q I rx rxs h
  obtain ⟨l, zs, ps, y, k, j, rfl, rfl, hH, hd, hy, hj, hno, q⟩ := h
  cases rx
  obtain ⟨u, rfl, ru⟩ := rxs.one
  obtain ⟨z, its, n, r, hl, e⟩ := I.lstM hH
  obtain ⟨as, ra⟩ := Dp.readsAll I _ zs its hd r
  obtain ⟨bs, rb⟩ := Dp.reads I _ y u hy ru
  have HA : PySem.W.HoldAll s.heap its.toArray.toList ps := ⟨as, show ReadsAll s.heap its.toArray.toList (ps.map pD) as by simpa using ra⟩
  have Hx : PySem.W.Holds s.heap u k := ⟨bs, rb⟩
  have hil : s.heap.IsList l its.toArray := (show PlainL s.heap l its.toArray from ⟨_, n, e, rfl, rfl, rfl⟩).isList
  refine PySem.W.remove_list_datum (α := Int × Int) hil HA Hx (by show X.A.units + 1 + 1 < cLine; omega) hj hno (by rw [List.size_toArray]; have := r.length; omega) ?_
  refine ⟨.non, _, I.lset (its' := its.eraseIdx j) (t' := s.toks) hH e ?_ (r.eraseIdx j) ?_, rfl, q⟩
  · show its.toArray.eraseIdxIfInBounds j = (its.eraseIdx j).toArray
    rw [List.eraseIdxIfInBounds_toArray]
  · have : (zs.eraseIdx j).length ≤ zs.length := List.length_eraseIdx_le _ _
    omega
end L2

set_option Elab.async false
set_option linter.all false
set_option maxRecDepth 100000
set_option maxHeartbeats 1000000

namespace Mine
open PySem PySem.Spec PyProof.Rows L2
local macro_rules | `(tactic| walk_at "my rn") => `(tactic| (repeat (first | with_reducible refine Rd.fld ?_ | with_reducible refine Rd.sfld ?_ | with_reducible refine Rd.meth ?_ | with_reducible refine Rd.make ?_ | with_reducible refine Rd.izip ?_ | with_reducible refine Rd.ckw ?_ | with_reducible refine Rd.dsetd ?_ | with_reducible refine Rd.ddel ?_ | with_reducible refine Rd.dnew ?_ | with_reducible refine Rd.din ?_ | with_reducible refine Rd.dnot ?_ | with_reducible refine Rd.dget ?_ | with_reducible refine Rd.dget2 ?_ | with_reducible refine Rd.dput ?_ | with_reducible refine Rd.cbDictOf ?_ | with_reducible refine Rd.iitems ?_ | with_reducible refine Rd.ikeys ?_ | with_reducible refine Rd.dc ?_ | with_reducible refine Rd.nwD ?_ | with_reducible refine Rd.tupN ?_ | with_reducible refine Rd.lstN ?_ | with_reducible refine Rd.cbListOf ?_ | with_reducible refine Rd.cbListOfR ?_ | with_reducible refine Rd.catI ?_ | with_reducible refine Rd.slN ?_ | with_reducible refine Rd.cbSrtI ?_ | with_reducible refine Rd.seq ?_ | with_reducible refine Rd.next ?_ | with_reducible refine Rd.brk ?_ | with_reducible refine Rd.cont ?_ | with_reducible refine Rd.asg ?_ | with_reducible refine Rd.ret ?_ | with_reducible refine Rd.retN ?_ | with_reducible refine Rd.drop ?_ | with_reducible refine Rd.ifs ?_ | with_reducible refine Rd.ife ?_ | with_reducible refine Rd.test ?_ | with_reducible refine Rd.tb_ ?_ | with_reducible refine Rd.bl ?_ | with_reducible refine Rd.bl2 ?_ | with_reducible refine Rd.and_ ?_ | with_reducible refine Rd.or_ ?_ | with_reducible refine Rd.not_ ?_ | with_reducible refine Rd.andV ?_ | with_reducible refine Rd.orV ?_ | with_reducible refine Rd.notV ?_ | with_reducible refine Rd.op ?_ | with_reducible refine Rd.un ?_ | with_reducible refine Rd.I0 ?_ | with_reducible refine Rd.U ?_ | with_reducible refine Rd.ip ?_ | with_reducible refine Rd.c_ ?_ | with_reducible refine Rd.nil ?_ | with_reducible refine Rd.cons ?_ | with_reducible refine Rd.call ?_ | with_reducible refine Rd.cb ?_ | with_reducible refine Rd.bm ?_ | with_reducible refine Rd.bm0 ?_ | with_reducible refine Rd.nopart ?_ | with_reducible refine Rd.part ?_ | with_reducible refine Rd.int1 ?_ | with_reducible refine Rd.ints1 ?_ | with_reducible refine Rd.ints2 ?_ | with_reducible refine Rd.gcons ?_ | with_reducible refine Rd.gnil ?_ | with_reducible refine Rd.sub ?_ | with_reducible refine Rd.isN ?_ | with_reducible refine Rd.chain ?_ | with_reducible refine Rd.rf ?_ | with_reducible refine Rd.tyS ?_ | with_reducible refine Rd.intI ?_ | with_reducible refine Rd.lc ?_ | with_reducible refine Rd.for_ ?_ | with_reducible refine Rd.ilist ?_ | with_reducible refine Rd.itup ?_ | with_reducible refine Rd.irng1 ?_ | with_reducible refine Rd.irng2 ?_ | with_reducible refine Rd.ienum ?_ | with_reducible refine Rd.istr ?_ | with_reducible refine Rd.refA ?_ | with_reducible refine Rd.strA ?_ | with_reducible refine Rd.yes ?_ | with_reducible refine Rd.ifT ?_ | with_reducible refine Rd.ifF ?_ | with_reducible refine Rd.ifnT ?_ | with_reducible refine Rd.ifnF ?_ | with_reducible refine Rd.isi_ii ?_ | with_reducible refine Rd.isi_ib ?_ | with_reducible refine Rd.isi_is ?_ | with_reducible refine Rd.isi_il ?_ | with_reducible refine Rd.isi_it ?_ | with_reducible refine Rd.isi_id ?_ | with_reducible refine Rd.isi_bi ?_ | with_reducible refine Rd.isi_bb ?_ | with_reducible refine Rd.isi_bs ?_ | with_reducible refine Rd.isi_bl ?_ | with_reducible refine Rd.isi_bt ?_ | with_reducible refine Rd.isi_bd ?_ | with_reducible refine Rd.isi_si ?_ | with_reducible refine Rd.isi_sb ?_ | with_reducible refine Rd.isi_ss ?_ | with_reducible refine Rd.isi_sl ?_ | with_reducible refine Rd.isi_st ?_ | with_reducible refine Rd.isi_sd ?_ | with_reducible refine Rd.isi_ni ?_ | with_reducible refine Rd.isi_nb ?_ | with_reducible refine Rd.isi_ns ?_ | with_reducible refine Rd.isi_nl ?_ | with_reducible refine Rd.isi_nt ?_ | with_reducible refine Rd.isi_nd ?_ | with_reducible refine Rd.sl ?_ | with_reducible refine Rd.v0 ?_ | with_reducible refine Rd.v1 ?_ | with_reducible refine Rd.v2 ?_ | with_reducible refine Rd.v3 ?_ | with_reducible refine Rd.v4 ?_ | with_reducible refine Rd.v5 ?_ | with_reducible refine Rd.v6 ?_ | with_reducible refine Rd.v7 ?_ | with_reducible refine Rd.v8 ?_ | with_reducible refine Rd.v9 ?_ | with_reducible refine Rd.v10 ?_ | with_reducible refine Rd.v11 ?_ | with_reducible refine Rd.v12 ?_ | with_reducible refine Rd.v13 ?_ | with_reducible refine Rd.v14 ?_ | with_reducible refine Rd.v15 ?_ | with_reducible refine Rd.n0 ?_ | with_reducible refine Rd.n1 ?_ | with_reducible refine Rd.n2 ?_ | with_reducible refine Rd.n3 ?_ | with_reducible refine Rd.n4 ?_ | with_reducible refine Rd.n5 ?_ | with_reducible refine Rd.n6 ?_ | with_reducible refine Rd.n7 ?_ | with_reducible refine Rd.n8 ?_ | with_reducible refine Rd.n9 ?_ | with_reducible refine Rd.n10 ?_ | with_reducible refine Rd.n11 ?_ | with_reducible refine Rd.n12 ?_ | with_reducible refine Rd.n13 ?_ | with_reducible refine Rd.n14 ?_ | with_reducible refine Rd.n15 ?_ | with_reducible refine Rd.g0 ?_ | with_reducible refine Rd.g1 ?_ | with_reducible refine Rd.g2 ?_ | with_reducible refine Rd.g3 ?_ | with_reducible refine Rd.g4 ?_ | with_reducible refine Rd.g5 ?_ | with_reducible refine Rd.g6 ?_ | with_reducible refine Rd.g7 ?_ | with_reducible refine Rd.g8 ?_ | with_reducible refine Rd.g9 ?_ | with_reducible refine Rd.g10 ?_ | with_reducible refine Rd.g11 ?_ | with_reducible refine Rd.g12 ?_ | with_reducible refine Rd.g13 ?_ | with_reducible refine Rd.g14 ?_ | with_reducible refine Rd.g15 ?_ | ((with_reducible apply Rd.fldI); (first | assumption | exact upd_same); assumption; assumption; (first | assumption | with_unfolding_all rfl)) | ((with_reducible apply Rd.methI); (first | assumption | exact upd_same); (first | assumption | with_unfolding_all rfl)) | ((with_reducible apply Rd.sfldI); (first | assumption | exact upd_same); assumption; assumption; exact Nat.le_of_ble_eq_true rfl) | ((with_reducible apply Rd.maxL); assumption) | ((with_reducible apply Rd.anyL); assumption) | ((with_reducible apply Rd.sumL); assumption) | ((with_reducible refine Rd.izI (by assumption) (by assumption) ?_)) | ((with_reducible refine Rd.eq ?_ ?_); exact rfl) | ((with_reducible refine Rd.ne ?_ ?_); exact rfl) | ((with_reducible refine Rd.szA ?_ ?_); exact Nat.le_of_ble_eq_true rfl) | ((with_reducible refine Rd.I ?_ ?_); first | assumption | decide | exact Or.inr (by decide +kernel) | exact Or.inl (by decide +kernel) | exact ⟨by decide, by decide⟩ | exact ⟨by decide, by decide, by decide⟩ | omega) | ((with_reducible apply Rd.tyL); first | assumption | exact upd_same) | ((with_reducible apply Rd.tyLq); assumption) | ((with_reducible apply Rd.ixL); (first | assumption | exact upd_same); exact rfl) | ((with_reducible apply Rd.ixT); (first | assumption | exact upd_same); exact rfl) | ((with_reducible apply Rd.ixLq); assumption; exact rfl) | ((with_reducible apply Rd.ixTq); assumption; exact rfl) | ((with_reducible apply Rd.gtup); (first | assumption | exact upd_same); exact rfl) | ((with_reducible apply Rd.gtupq); assumption; exact rfl) | ((with_reducible apply Rd.sqAq); assumption) | ((with_reducible apply Rd.stAq); assumption) | ((with_reducible apply Rd.enAq); assumption) | ((with_reducible apply Rd.lenLq); assumption) | ((with_reducible apply Rd.lenTq); assumption) | ((with_reducible apply Rd.sqA); first | assumption | exact upd_same) | ((with_reducible apply Rd.stA); first | assumption | exact upd_same) | ((with_reducible apply Rd.enA); first | assumption | exact upd_same) | ((with_reducible apply Rd.lenL); first | assumption | exact upd_same) | ((with_reducible apply Rd.lenT); first | assumption | exact upd_same) | ((with_reducible refine Rd.nwT ?_ ?_); exact Nat.le_of_ble_eq_true rfl) | ((with_reducible refine Rd.nwL ?_ ?_); exact Nat.le_of_ble_eq_true rfl) | ((with_reducible apply Rd.isd); assumption) | ((with_reducible apply Rd.dictOf); assumption) | ((with_reducible refine Rd.isi_dd (by assumption) ?_)) | ((with_reducible apply Rd.itA); first | assumption | exact upd_same) | ((with_reducible apply Rd.ikA); first | assumption | exact upd_same) | ((with_reducible apply Rd.listOf); assumption) | ((with_reducible apply Rd.listOfq); assumption) | ((with_reducible apply Rd.slo); assumption) | ((with_reducible apply Rd.slq); assumption) | ((with_reducible apply Rd.srtI); assumption) | ((with_reducible apply Rd.srtIo); assumption) | ((with_reducible refine Rd.isi_li (by assumption) ?_)) | ((with_reducible refine Rd.isi_lb (by assumption) ?_)) | ((with_reducible refine Rd.isi_ls (by assumption) ?_)) | ((with_reducible refine Rd.isi_ll (by assumption) ?_)) | ((with_reducible refine Rd.isi_lt (by assumption) ?_)) | ((with_reducible refine Rd.isi_ld (by assumption) ?_)) | ((with_reducible refine Rd.isi_ti (by assumption) ?_)) | ((with_reducible refine Rd.isi_tb (by assumption) ?_)) | ((with_reducible refine Rd.isi_ts (by assumption) ?_)) | ((with_reducible refine Rd.isi_tl (by assumption) ?_)) | ((with_reducible refine Rd.isi_tt (by assumption) ?_)) | ((with_reducible refine Rd.isi_td (by assumption) ?_)))))
def topS (i : Nat) : Stmt := PySem.Challenge.pw_deadbeat_k54_accepted_releases.main.body.getD i (.Pass ⟨0, 0, 0, 0⟩)
abbrev s__law_start : Stmt := topS 4
theorem sc__law_start : FnScope ["script", "seed", "cell"] ["script"] (defScope s__law_start) := ⟨rfl, rfl, rfl, by decide +kernel, rfl, by decide +kernel, by decide +kernel⟩
abbrev s__law_draw : Stmt := topS 5
theorem sc__law_draw : FnScope ["state", "many", "found"] ["state", "many"] (defScope s__law_draw) := ⟨rfl, rfl, rfl, by decide +kernel, rfl, by decide +kernel, by decide +kernel⟩
abbrev s_accepted : Stmt := topS 1
theorem sc_accepted : FnScope ["times", "every", "found", "time"] ["times", "every"] (defScope s_accepted) := ⟨rfl, rfl, rfl, by decide +kernel, rfl, by decide +kernel, by decide +kernel⟩
abbrev s_Timeline_init : Stmt := inClass (topS 2) 0
theorem sc_Timeline_init : FnScope ["self", "rows", "number", "times", "time"] ["self", "rows"] (defScope s_Timeline_init) := ⟨rfl, rfl, rfl, by decide +kernel, rfl, by decide +kernel, by decide +kernel⟩
abbrev s_Timeline_next_time : Stmt := inClass (topS 2) 1
theorem sc_Timeline_next_time : FnScope ["self"] ["self"] (defScope s_Timeline_next_time) := ⟨rfl, rfl, rfl, by decide +kernel, rfl, by decide +kernel, by decide +kernel⟩
abbrev s_Timeline_take : Stmt := inClass (topS 2) 2
theorem sc_Timeline_take : FnScope ["self"] ["self"] (defScope s_Timeline_take) := ⟨rfl, rfl, rfl, by decide +kernel, rfl, by decide +kernel, by decide +kernel⟩
abbrev s__law_times : Stmt := topS 6
theorem sc__law_times : FnScope ["state", "every", "times", "k", "turn"] ["state", "every"] (defScope s__law_times) := ⟨rfl, rfl, rfl, by decide +kernel, rfl, by decide +kernel, by decide +kernel⟩
abbrev s__law_accepts : Stmt := topS 7
theorem sc__law_accepts : FnScope ["times", "found", "every", "k", "time", "other"] ["times", "found", "every"] (defScope s__law_accepts) := ⟨rfl, rfl, rfl, by decide +kernel, rfl, by decide +kernel, by decide +kernel⟩
abbrev s__law_ordered : Stmt := topS 8
theorem sc__law_ordered : FnScope ["timeline", "rows", "left", "number", "times", "time", "k", "due", "told"] ["timeline", "rows"] (defScope s__law_ordered) := ⟨rfl, rfl, rfl, by decide +kernel, rfl, by decide +kernel, by decide +kernel⟩
abbrev s_law : Stmt := topS 9
theorem sc_law : FnScope ["script", "state", "every", "rows", "number", "times", "given", "found"] ["script"] (defScope s_law) := ⟨rfl, rfl, rfl, by decide +kernel, rfl, by decide +kernel, by decide +kernel⟩
structure Top (K : PySem.W.Frag) (mg : Str → Option Value) where
  C_Timeline : Addr
  gc_Timeline : mg "Timeline" = some (.ref C_Timeline)
  cl_Timeline : Cls K C_Timeline
  n_Timeline_coming : NoAttr K C_Timeline "coming"
  n_Timeline_taken : NoAttr K C_Timeline "taken"
  a__law_start : Addr
  d__law_start : FuncData
  F__law_start : Fun K "_law_start" "_law_start" s__law_start a__law_start d__law_start
  g__law_start : mg "_law_start" = some (.ref a__law_start)
  b__law_start : Binds K d__law_start ["script"] []
  a__law_draw : Addr
  d__law_draw : FuncData
  F__law_draw : Fun K "_law_draw" "_law_draw" s__law_draw a__law_draw d__law_draw
  g__law_draw : mg "_law_draw" = some (.ref a__law_draw)
  b__law_draw : Binds K d__law_draw ["state", "many"] []
  a_accepted : Addr
  d_accepted : FuncData
  F_accepted : Fun K "accepted" "accepted" s_accepted a_accepted d_accepted
  g_accepted : mg "accepted" = some (.ref a_accepted)
  b_accepted : Binds K d_accepted ["times", "every"] []
  a_Timeline_init : Addr
  d_Timeline_init : FuncData
  F_Timeline_init : Fun K "__init__" "Timeline.__init__" s_Timeline_init a_Timeline_init d_Timeline_init
  M_Timeline : Mk K C_Timeline a_Timeline_init
  b_Timeline_init : Binds K d_Timeline_init ["self", "rows"] []
  a_Timeline_next_time : Addr
  d_Timeline_next_time : FuncData
  F_Timeline_next_time : Fun K "next_time" "Timeline.next_time" s_Timeline_next_time a_Timeline_next_time d_Timeline_next_time
  m_Timeline_next_time : Meth K C_Timeline "next_time" a_Timeline_next_time
  b_Timeline_next_time : Binds K d_Timeline_next_time ["self"] []
  a_Timeline_take : Addr
  d_Timeline_take : FuncData
  F_Timeline_take : Fun K "take" "Timeline.take" s_Timeline_take a_Timeline_take d_Timeline_take
  m_Timeline_take : Meth K C_Timeline "take" a_Timeline_take
  b_Timeline_take : Binds K d_Timeline_take ["self"] []
  a__law_times : Addr
  d__law_times : FuncData
  F__law_times : Fun K "_law_times" "_law_times" s__law_times a__law_times d__law_times
  g__law_times : mg "_law_times" = some (.ref a__law_times)
  b__law_times : Binds K d__law_times ["state", "every"] []
  a__law_accepts : Addr
  d__law_accepts : FuncData
  F__law_accepts : Fun K "_law_accepts" "_law_accepts" s__law_accepts a__law_accepts d__law_accepts
  g__law_accepts : mg "_law_accepts" = some (.ref a__law_accepts)
  b__law_accepts : Binds K d__law_accepts ["times", "found", "every"] []
  a__law_ordered : Addr
  d__law_ordered : FuncData
  F__law_ordered : Fun K "_law_ordered" "_law_ordered" s__law_ordered a__law_ordered d__law_ordered
  g__law_ordered : mg "_law_ordered" = some (.ref a__law_ordered)
  b__law_ordered : Binds K d__law_ordered ["timeline", "rows"] []
  a_law : Addr
  d_law : FuncData
  F_law : Fun K "law" "law" s_law a_law d_law
  g_law : mg "law" = some (.ref a_law)
  b_law : Binds K d_law ["script"] []
  m_list : mg "list" = none
  m_int : mg "int" = none
  m_len : mg "len" = none
  m_abs : mg "abs" = none
  m_sorted : mg "sorted" = none
  m_range : mg "range" = none
  m_isinstance : mg "isinstance" = none
  m_tuple : mg "tuple" = none
  m_min : mg "min" = none
/-- the state of the law's draws: the list at p, the cells' copy at c -/
def StOk (H : Hp) (p c : Addr) : Prop := ∃ (ms : List Int) (k : Nat) (v sd : Int), p ≠ c ∧ H p = some (.lst [.ref c, .int k, .int v, .int sd]) ∧ H c = some (.lst (ms.map V.int)) ∧ ms.length ≤ 63 ∧ 0 ≤ v ∧ 0 ≤ sd ∧ sd ≤ 2147483647
/-- all but the object at p is as it was -/
def Keep (p : Addr) (H H' : Hp) : Prop := ∀ b o, b ≠ p → H b = some o → H' b = some o
theorem Keep.refl (p : Addr) (H : Hp) : Keep p H H := fun _ _ _ h => h
theorem Keep.trans {p : Addr} {H H1 H2 : Hp} (a : Keep p H H1) (b : Keep p H1 H2) : Keep p H H2 := fun x o h1 h => b x o h1 (a x o h1 h)
theorem Keep.same {p : Addr} {H H1 : Hp} (a : Same H H1) : Keep p H H1 := fun x o _ h => a x o h
theorem Keep.at {p : Addr} {H : Hp} {o : HO} : Keep p H (upd H p o) := fun x u h1 h => by
  rw [upd_ne h1]
  exact h
theorem StOk.same {H H' : Hp} {p c : Addr} (s : StOk H p c) (e : Same H H') : StOk H' p c := by
  obtain ⟨ms, k, v, sd, h1, h2, h3, h⟩ := s
  exact ⟨ms, k, v, sd, h1, e _ _ h2, e _ _ h3, h⟩
theorem StOk.ne {H : Hp} {p c l : Addr} (s : StOk H p c) (h : H l = Option.none) : l ≠ p ∧ l ≠ c := by
  obtain ⟨ms, k, v, sd, h1, h2, h3, _⟩ := s
  exact ⟨fun z => (by rw [z, h2] at h; cases h), fun z => (by rw [z, h3] at h; cases h)⟩
/-- an address that is free behind was free before -/
theorem Keep.free {p c : Addr} {H H' : Hp} (k : Keep p H H') (s : StOk H' p c) {l : Addr} (h : H' l = Option.none) : H l = Option.none := by
  cases e : H l with
  | none => rfl
  | some o =>
    rw [k l o (s.ne h).1 e] at h
    cases h
def absI (n : Int) : Int := if n < 0 then -n else n
theorem abs_nn (n : Int) : 0 ≤ absI n := by
  unfold absI
  split <;> omega
section
variable {P : Program} {w : World} {K : PySem.W.Frag} {mg : Str → Option Value} {base : Heap}
def sp__law_start (K : PySem.W.Frag) : Sp := fun vs H Q _ => ∃ (a : Addr) (ns : List Int), vs = [.ref a] ∧ SqL K H a (ns.map V.int) ∧ ns.length ≤ 63 ∧ ∀ (H' : Hp) (p c : Addr), Same H H' → H p = none → H c = none → StOk H' p c → Q (.ref p) H'
theorem ok__law_start (T : Top K mg) : FnOk P w K mg base CX0 1 T.a__law_start T.d__law_start ["script"]  (sp__law_start K) := by
  refine T.F__law_start.ok sc__law_start (fun vs H Q E h => ?_) (fun cdv A outer s H vs Q E hr h => ?_)
  · obtain ⟨_, _, rfl, _⟩ := h
    rfl
  · obtain ⟨a, ns, rfl, hS, hlen, q⟩ := h
    refine ⟨_, (pss_cons (ps_set (i := 1) sc__law_start.nd rfl (by first | exact Or.inl rfl | exact Or.inr rfl) pe_int)
  (pss_cons (ps_for PassesOwn.never rfl (pi_list (pv 0)) (pg_name (i := 2) sc__law_start.nd rfl (by first | exact Or.inl rfl | exact Or.inr rfl))
  (pss_one (ps_set (i := 1) sc__law_start.nd rfl (by first | exact Or.inl rfl | exact Or.inr rfl) (pe_op op_mod (pe_callTy call_int1 (by rfl) T.m_int (by decide +kernel) (pa_cons (pe_op op_add (pe_op op_mul (pv 1) pe_int) (pv 2)) pa_nil)) pe_int))))
  (pss_one (ps_ret (pe_lst (pa_cons (pe_callTy call_list_of (by rfl) T.m_list (by decide +kernel) (pa_cons (pv 0) pa_nil)) (pa_cons pe_int (pa_cons pe_int (pa_cons (pe_op op_add (pv 1) pe_int) pa_nil))))))))), ?_⟩
    refine ⟨_, rfl, a, rfl, ⟨_, hS⟩, for_list (xs := ns.map V.int) (fun i σ H' => ∃ sd y2, σ = [some (.ref a), some (.int sd), y2] ∧ H' = H ∧ 0 ≤ sd ∧ sd < 1000003) ⟨7, none, rfl, rfl, by decide, by decide⟩ (fun i σ H' _ ⟨_, _, _, e, _⟩ => by rw [e]; exact hS) ?_ ?_⟩
    · rintro i x σ H' hi ⟨sd, y2, rfl, rfl, h0, h1⟩
      obtain ⟨n, _, rfl⟩ := List.mem_map.mp (List.mem_of_getElem? hi)
      refine ⟨_, rfl, _, _, rfl, rfl, .inl ⟨by omega, by omega⟩, _, rfl, _, _, rfl, rfl, .inl ⟨_, rfl, _, _, rfl, rfl, (by show (0 : Int) < 1000003; decide), ?_⟩⟩
      exact ⟨_, _, rfl, rfl, Int.emod_nonneg _ (by decide), Int.emod_lt_of_pos _ (by decide)⟩
    · rintro σ H' ⟨sd, y2, rfl, rfl, h0, h1⟩
      refine ⟨_, rfl, a, _, rfl, .inl hS, fun c hc => ?_⟩
      refine ⟨_, rfl, _, _, rfl, rfl, (by show 4 ≤ sizeLine; decide), fun p hp => ?_⟩
      have npc : p ≠ c := fun z => by rw [z, upd_same] at hp; cases hp
      refine q _ p c ((same_new hc).trans (same_new hp)) ((same_new hc).free hp) hc ⟨ns, 0, 0, sd + 1, npc, upd_same, ?_, hlen, by decide, by omega, by omega⟩
      rw [upd_ne npc.symm, upd_same]
      all_goals rfl
theorem ix4 {n : Nat} {i : Int} {j : Nat} (e : i = (j : Int)) (h : j < n) : ixN n i = some j := by
  subst e
  unfold ixN
  rw [if_pos (by omega), if_pos (by omega)]
  rfl
def sp__law_draw : Sp := fun vs H Q _ => ∃ (p c : Addr) (many : Int), vs = [.ref p, .int many] ∧ StOk H p c ∧ 0 < many ∧ many ≤ 1099511627775 ∧ ∀ (v : Int) (H' : Hp), 0 ≤ v → v < many → StOk H' p c → Keep p H H' → Q (.int v) H'
theorem ok__law_draw (T : Top K mg) : FnOk P w K mg base CX0 1 T.a__law_draw T.d__law_draw ["state", "many"]  sp__law_draw := by
  refine T.F__law_draw.ok sc__law_draw (fun vs H Q E h => ?_) (fun cdv A outer s H vs Q E hr h => ?_)
  · obtain ⟨_, _, _, rfl, _⟩ := h
    rfl
  · obtain ⟨p, c, many, rfl, hst, hm0, hm1, q⟩ := h
    obtain ⟨ms, k, v, sd, npc, hp, hc, hl, v0, s0, s1⟩ := hst
    refine ⟨_, (pss_cons (ps_if (pt_cmpR op_eq (pe_ix ix_list (pv 0) pe_int (fun _ _ => rfl)) pe_int (nomark _))
  (pss_cons (ps_if (pt_cmpR op_lt (pe_ix ix_list (pv 0) pe_int (fun _ _ => rfl)) (pe_callB call_len_seq (by rfl) T.m_len PySem.boot_len (pa_cons (pe_ix ix_list (pv 0) pe_int (fun _ _ => rfl)) pa_nil)) (nomark _))
  (pss_one (ps_asg (pe_callB call_abs (by rfl) T.m_abs (by decide +kernel) (pa_cons (pe_ix ix_list (pe_ix ix_list (pv 0) pe_int (fun _ _ => rfl)) (pe_ix ix_list (pv 0) pe_int (fun _ _ => rfl)) (fun _ _ => rfl)) pa_nil)) (pg_sub (pv 0) pe_int set_list)))
  (pss_cons (ps_asg (pe_op op_mod (pe_callTy call_int1 (by rfl) T.m_int (by decide +kernel) (pa_cons (pe_op op_add (pe_op op_mul (pe_ix ix_list (pv 0) pe_int (fun _ _ => rfl)) pe_int) pe_int) pa_nil)) pe_int) (pg_sub (pv 0) pe_int set_list))
  (pss_one (ps_asg (pe_op op_fdivW (pe_callTy call_int1 (by rfl) T.m_int (by decide +kernel) (pa_cons (pe_ix ix_list (pv 0) pe_int (fun _ _ => rfl)) pa_nil)) pe_int) (pg_sub (pv 0) pe_int set_list)))))
  (pss_one (ps_asg (pe_op op_add (pe_ix ix_list (pv 0) pe_int (fun _ _ => rfl)) pe_int) (pg_sub (pv 0) pe_int set_list))))
  pss_nil)
  (pss_cons (ps_set (i := 2) sc__law_draw.nd rfl (by first | exact Or.inl rfl | exact Or.inr rfl) (pe_op op_mod (pe_callTy call_int1 (by rfl) T.m_int (by decide +kernel) (pa_cons (pe_ix ix_list (pv 0) pe_int (fun _ _ => rfl)) pa_nil)) (pv 1)))
  (pss_cons (ps_asg (pe_op op_fdivW (pe_callTy call_int1 (by rfl) T.m_int (by decide +kernel) (pa_cons (pe_ix ix_list (pv 0) pe_int (fun _ _ => rfl)) pa_nil)) (pv 1)) (pg_sub (pv 0) pe_int set_list))
  (pss_one (ps_ret (pv 2)))))), ?_⟩
    have fin : ∀ (k' : Nat) (v' sd' : Int) (H' : Hp), H' = upd H p (.lst [.ref c, .int k', .int v', .int sd']) → 0 ≤ v' → 0 ≤ sd' → sd' ≤ 2147483647 → Q (.int (v' % many)) (upd H' p (.lst [.ref c, .int k', .int (v' / many), .int sd'])) := fun k' v' sd' H' e hv h0 h1 => by
      subst e
      refine q _ _ (Int.emod_nonneg _ (by omega)) (Int.emod_lt_of_pos _ hm0) ⟨ms, k', v' / many, sd', npc, upd_same, ?_, hl, Int.ediv_nonneg hv (by omega), h0, h1⟩ ?_
      · rw [upd_ne npc.symm, upd_ne npc.symm]
        exact hc
      · exact Keep.at.trans Keep.at
    have hw : many.natAbs < 2 ^ 40 := by omega
    refine ⟨_, rfl, p, _, 2, .int v, rfl, rfl, SqL.of hp, atI_nat (j := 2) rfl, rfl, _, rfl, ite2 (fun cc => ?_) (fun cc => ?_)⟩
    · -- the next cell, or a mixed one
      have key : ∀ (v2 sd2 : Int) (H2 : Hp), H2 = upd H p (.lst [.ref c, .int k, .int v2, .int sd2]) → 0 ≤ v2 → 0 ≤ sd2 → sd2 ≤ 2147483647 → _ := fun v2 sd2 H2 e hv h0 h1 => fin (k + 1) v2 sd2 (upd H2 p (.lst [.ref c, .int ((k + 1 : Nat) : Int), .int v2, .int sd2])) (by rw [e, upd_upd]) hv h0 h1
      refine ⟨_, rfl, p, _, 1, .int k, rfl, rfl, SqL.of hp, atI_nat (j := 1) rfl, _, rfl, p, _, 0, .ref c, rfl, rfl, SqL.of hp, atI_nat (j := 0) rfl, c, _, rfl, .inl (SqL.of hc), _, _, rfl, rfl, _, rfl, ite2 (fun c2 => ?_) (fun c2 => ?_)⟩
      · have hk : k < ms.length := by
          have := of_decide_eq_true c2
          rw [List.length_map] at this
          omega
        obtain ⟨m, hm⟩ : ∃ m, ms[k]? = some m := ⟨_, List.getElem?_eq_getElem hk⟩
        refine ⟨_, rfl, p, _, 0, .ref c, rfl, rfl, SqL.of hp, atI_nat (j := 0) rfl, _, rfl, p, _, 1, .int k, rfl, rfl, SqL.of hp, atI_nat (j := 1) rfl, c, _, k, .int m, rfl, rfl, SqL.of hc, atI_nat (j := k) (by rw [List.getElem?_map, hm]; rfl), _, rfl, ?_⟩
        refine ⟨_, rfl, p, _, 2, 2, rfl, rfl, hp, rfl, ?_⟩
        refine ⟨_, rfl, p, _, 1, .int k, rfl, rfl, SqL.of upd_same, atI_nat (j := 1) rfl, _, _, rfl, rfl, _, rfl, p, _, 1, 1, rfl, rfl, upd_same, rfl, ?_⟩
        refine ⟨_, rfl, p, _, 2, .int (absI m), rfl, rfl, SqL.of upd_same, atI_nat (j := 2) rfl, .inl ⟨_, rfl, _, rfl, _, _, rfl, rfl, hm0, ?_⟩⟩
        refine ⟨_, rfl, p, _, 2, .int (absI m), rfl, rfl, SqL.of upd_same, atI_nat (j := 2) rfl, .inl ⟨_, rfl, _, rfl, _, _, rfl, rfl, wide_div hm0 hw (by decide) (by decide), _, rfl, p, _, 2, 2, rfl, rfl, upd_same, rfl, ?_⟩⟩
        exact ⟨_, rfl, key (absI m) sd _ rfl (abs_nn m) s0 s1⟩
      · have m0 := Int.emod_nonneg (sd * 48271 + 12345) (show (2147483647 : Int) ≠ 0 by decide)
        have m1 := Int.emod_lt_of_pos (sd * 48271 + 12345) (show (0 : Int) < 2147483647 by decide)
        refine ⟨_, rfl, p, _, 3, .int sd, rfl, rfl, SqL.of hp, atI_nat (j := 3) rfl, _, _, rfl, rfl, .inl ⟨by omega, by omega⟩, _, _, rfl, rfl, .inl ⟨_, rfl, _, _, rfl, rfl, (by show (0 : Int) < 2147483647; decide), ?_⟩⟩
        refine ⟨_, rfl, p, _, 3, 3, rfl, rfl, hp, rfl, ?_⟩
        refine ⟨_, rfl, p, _, 3, .int ((sd * 48271 + 12345) % 2147483647), rfl, rfl, SqL.of upd_same, atI_nat (j := 3) rfl, .inl ⟨_, rfl, _, _, rfl, rfl, wide_div (b := 10) (by decide) (by decide) (by decide) (by decide), _, rfl, p, _, 2, 2, rfl, rfl, upd_same, rfl, ?_⟩⟩
        refine ⟨_, rfl, p, _, 1, .int k, rfl, rfl, SqL.of upd_same, atI_nat (j := 1) rfl, _, _, rfl, rfl, _, rfl, p, _, 1, 1, rfl, rfl, upd_same, rfl, ?_⟩
        refine ⟨_, rfl, p, _, 2, .int ((sd * 48271 + 12345) % 2147483647 / 64), rfl, rfl, SqL.of upd_same, atI_nat (j := 2) rfl, .inl ⟨_, rfl, _, rfl, _, _, rfl, rfl, hm0, ?_⟩⟩
        refine ⟨_, rfl, p, _, 2, .int ((sd * 48271 + 12345) % 2147483647 / 64), rfl, rfl, SqL.of upd_same, atI_nat (j := 2) rfl, .inl ⟨_, rfl, _, rfl, _, _, rfl, rfl, wide_div hm0 hw (by decide) (by decide), _, rfl, p, _, 2, 2, rfl, rfl, upd_same, rfl, ?_⟩⟩
        exact ⟨_, rfl, key ((sd * 48271 + 12345) % 2147483647 / 64) ((sd * 48271 + 12345) % 2147483647) _ (by rw [upd_upd]; rfl) (Int.ediv_nonneg m0 (by decide)) m0 (by omega)⟩
    · refine ⟨_, rfl, p, _, 2, .int v, rfl, rfl, SqL.of hp, atI_nat (j := 2) rfl, .inl ⟨_, rfl, _, rfl, _, _, rfl, rfl, hm0, ?_⟩⟩
      refine ⟨_, rfl, p, _, 2, .int v, rfl, rfl, SqL.of hp, atI_nat (j := 2) rfl, .inl ⟨_, rfl, _, rfl, _, _, rfl, rfl, wide_div hm0 hw (by decide) (by decide), _, rfl, p, _, 2, 2, rfl, rfl, hp, rfl, ?_⟩⟩
      have := fin k v sd H (upd_self hp).symm v0 s0 s1
      exact ⟨_, rfl, this⟩
end

/-! ### what == and index compare: data under an object -/
def DOk (n : Nat) (d : PyData) : Prop := d.canLay0 = true ∧ d.depth ≤ n
theorem DOk.shaped {n : Nat} {d : PyData} (h : DOk n d) (hn : n ≤ 64) : SeqAt.shaped d = true := by
  unfold SeqAt.shaped
  rw [h.1, decide_eq_true (Nat.le_trans h.2 hn)]
  rfl
theorem DOk.mono {n m : Nat} {d : PyData} (h : DOk n d) (hn : n ≤ m) : DOk m d := ⟨h.1, Nat.le_trans h.2 hn⟩
theorem dok_int {n : Nat} {i : Int} : DOk n (.int i) := ⟨by simp only [PyData.canLay0], by simp only [PyData.depth]; exact Nat.zero_le _⟩
theorem dok_non {n : Nat} : DOk n .none := ⟨by simp only [PyData.canLay0], by simp only [PyData.depth]; exact Nat.zero_le _⟩
theorem dok_bl {n : Nat} {b : Bool} : DOk n (.bool b) := ⟨by simp only [PyData.canLay0], by simp only [PyData.depth]; exact Nat.zero_le _⟩
theorem dok_str {n : Nat} {x : Str} (h : PyData.strOk x = true) : DOk n (.str x) := ⟨by simp only [PyData.canLay0]; exact h, by simp only [PyData.depth]; exact Nat.zero_le _⟩
theorem dok_all {n : Nat} : ∀ {ds : List PyData}, (∀ d ∈ ds, DOk n d) → PyData.canLayAll0 ds = true ∧ PyData.depthAll ds ≤ n
  | [], _ => ⟨by simp only [PyData.canLayAll0], by simp only [PyData.depthAll]; exact Nat.zero_le _⟩
  | d :: r, h => by
    obtain ⟨a, b⟩ := dok_all (ds := r) fun x m => h x (List.mem_cons_of_mem _ m)
    obtain ⟨c, e⟩ := h d List.mem_cons_self
    exact ⟨by simp only [PyData.canLayAll0, c, a] <;> rfl, by simp only [PyData.depthAll]; omega⟩
theorem dok_list {n : Nat} {ds : List PyData} (h : ∀ d ∈ ds, DOk n d) : DOk (n + 1) (.list ds) := by
  obtain ⟨a, b⟩ := dok_all h
  exact ⟨by simp only [PyData.canLay0]; exact a, by simp only [PyData.depth]; omega⟩
theorem dok_tup {n : Nat} {ds : List PyData} (h : ∀ d ∈ ds, DOk n d) : DOk (n + 1) (.tuple ds) := by
  obtain ⟨a, b⟩ := dok_all h
  exact ⟨by simp only [PyData.canLay0]; exact a, by simp only [PyData.depth]; omega⟩
theorem dpAll_map {K : PySem.W.Frag} {H : Hp} (f : V → PyData) : ∀ {zs : List V}, (∀ v ∈ zs, Dp K H v (f v)) → DpAll K H zs (zs.map f)
  | [], _ => .nil
  | z :: r, h => .cons (h z List.mem_cons_self) (dpAll_map f fun v m => h v (List.mem_cons_of_mem _ m))
theorem dpAll_ints {K : PySem.W.Frag} {H : Hp} : ∀ {ns : List Int}, DpAll K H (ns.map V.int) (ns.map PyData.int)
  | [] => .nil
  | n :: r => .cons (.int n) dpAll_ints
theorem dp_ints {K : PySem.W.Frag} {H : Hp} {a : Addr} {ns : List Int} (h : SqL K H a (ns.map V.int)) : Dp K H (.ref a) (.list (ns.map PyData.int)) := .lst h dpAll_ints
theorem dp_intsT {K : PySem.W.Frag} {H : Hp} {a : Addr} {ns : List Int} (h : SqT K H a (ns.map V.int)) : Dp K H (.ref a) (.tuple (ns.map PyData.int)) := .tup h dpAll_ints
theorem ints_dok (n : Nat) (ns : List Int) : DOk (n + 1) (.list (ns.map PyData.int)) := dok_list fun d m => by
  obtain ⟨i, _, rfl⟩ := List.mem_map.mp m
  exact dok_int
theorem ints_shaped (ns : List Int) : SeqAt.shaped (.list (ns.map PyData.int)) = true := (ints_dok 0 ns).shaped (by decide)
theorem eqvAll_ints : ∀ ns ms : List Int, PyData.eqvAll (ns.map PyData.int) (ms.map PyData.int) = decide (ns = ms)
  | [], [] => by simp [PyData.eqvAll]
  | [], b :: s => by simp [PyData.eqvAll]
  | a :: r, [] => by simp [PyData.eqvAll]
  | a :: r, b :: s => by
    rw [List.map_cons, List.map_cons, PyData.eqvAll, eqvAll_ints r s, PyData.eqv]
    by_cases h : a = b <;> by_cases h2 : r = s <;> simp [h, h2]
theorem eqv_ints (ns ms : List Int) : PyData.eqv (.list (ns.map PyData.int)) (.list (ms.map PyData.int)) = decide (ns = ms) := by
  rw [PyData.eqv, eqvAll_ints]
theorem eqv_intsT (ns ms : List Int) : PyData.eqv (.tuple (ns.map PyData.int)) (.tuple (ms.map PyData.int)) = decide (ns = ms) := by
  rw [PyData.eqv, eqvAll_ints]

/-! ### comprehensions that keep some -/
theorem lc_some {J : It} {n : Nat} {G : Hp → Prop} {Y : Nat → Hp → V → Hp → Prop} (w : Walk J n G Y) {g : TG} {tt : TT} {te : TE} {vs : List Nat} {σ : L2.St} {H1 : Hp} {D : Addr} {Qd : Hp → Prop} (P : Int → Prop) (Cm : Nat → Int → Prop) (nD : H1 D = none) (hn : n ≤ 90000) (hG : ∀ H, Rd.But D H1 H → G H)
    (hs : ∀ (i : Nat) x H H' (Kt : VK) (Kn : Hp → Prop), i < n → Rd.But D H1 H → Y i H x H' → (∀ v H4, P v → (∀ u, Cm i u → u = v) → Same H H4 → Kt (.int v) H4) → (∀ H4, (∀ u, ¬ Cm i u) → Same H H4 → Kn H4) →
      g x (wipe σ vs) H' fun σ2 H2 => wipe σ2 vs = wipe σ vs ∧ tt σ2 H2 fun b H3 => if b = true then te σ2 H3 Kt else Kn H3)
    (hd : ∀ H (ys : List Int), (∀ v ∈ ys, P v) → (∀ i u, i < n → Cm i u → u ∈ ys) → ys.length ≤ n → Same H1 H → H D = some (.lst (ys.map V.int)) → Qd H) :
    ∃ W : Nat → Nat → Hp → Prop, (∃ m, W 0 m (upd H1 D (.lst []))) ∧ ∀ i m H, W i m H →
      (J.stop i H ∧ Qd H) ∨ (J.go i H ∧ ∃ Nx : Hp → Prop, (∀ H', Nx H' → ∃ m', m' < m ∧ W (i + 1) m' H') ∧ ∀ x H', J.yld i H x H' → g x (wipe σ vs) H' fun σ2 H2 => wipe σ2 vs = wipe σ vs ∧ tt σ2 H2 fun b H3 =>
        if b = true then te σ2 H3 fun y H4 => ∃ acc, H4 D = some (.lst acc) ∧ acc.length < sizeLine ∧ Nx (upd H4 D (.lst (acc ++ [y]))) else Nx H3) := by
  refine lc_it w (fun i H => ∃ ys : List Int, (∀ v ∈ ys, P v) ∧ (∀ j u, j < i → Cm j u → u ∈ ys) ∧ ys.length ≤ i ∧ Rd.But D H1 H ∧ H D = some (.lst (ys.map V.int))) ⟨[], by simp, fun j u h => absurd h (Nat.not_lt_zero _), Nat.le_refl _, Rd.But.at_, upd_same⟩ (fun i H _ ⟨_, _, _, _, b, _⟩ => hG H b) (fun i x H H' hi ⟨ys, h1, h2, h3, b, hD⟩ y => ?_) (fun H ⟨ys, h1, h2, h3, b, hD⟩ => hd H ys h1 h2 h3 (b.to nD) hD)
  refine hs i x H H' _ _ hi b y (fun v H4 pv cm sm => ?_) (fun H4 cm sm => ?_)
  · refine ⟨_, sm _ _ hD, Rd.szl (by rw [List.length_map]; omega), ys ++ [v], fun u m => ?_, fun j u hj c => ?_, by simp; omega, (b.trans (Rd.But.same sm)).trans Rd.But.at_, by rw [upd_same, List.map_append]; rfl⟩
    · rcases List.mem_append.mp m with m | m
      · exact h1 u m
      · rw [List.mem_singleton.mp m]; exact pv
    · by_cases e : j = i
      · subst e
        rw [cm u c]
        exact List.mem_append_right _ (List.mem_singleton.mpr rfl)
      · exact List.mem_append_left _ (h2 j u (by omega) c)
  · refine ⟨ys, h1, fun j u hj c => ?_, by omega, b.trans (Rd.But.same sm), sm _ _ hD⟩
    by_cases e : j = i
    · subst e
      exact absurd c (cm u)
    · exact h2 j u (by omega) c

/-! ### deadbeat.releases: accepted -/
structure Acc (every : Int) (s f : List Int) : Prop where
  sub : ∀ x ∈ f, x ∈ s
  gap : f.Pairwise fun a b => a + every ≤ b
  cov : ∀ t ∈ s, ∃ x ∈ f, x ≤ t ∧ t < x + every
theorem take_mem {s : List Int} {i : Nat} {x t : Int} (srt : s.Pairwise (· ≤ ·)) (h : x ∈ s.take i) (ht : s[i]? = some t) : x ≤ t := by
  obtain ⟨j, hj⟩ := List.mem_iff_getElem?.mp h
  rw [List.getElem?_take] at hj
  split at hj
  · rename_i c
    have h1 := (List.getElem?_eq_some_iff.mp hj)
    have h2 := (List.getElem?_eq_some_iff.mp ht)
    obtain ⟨l1, e1⟩ := h1
    obtain ⟨l2, e2⟩ := h2
    have := List.pairwise_iff_getElem.mp srt j i l1 l2 c
    rw [e1, e2] at this
    exact this
  · cases hj
theorem Acc.skip {every t x : Int} {s f0 : List Int} {i : Nat} (h : Acc every (s.take i) (f0 ++ [x])) (srt : s.Pairwise (· ≤ ·)) (ht : s[i]? = some t) (c : ¬ every ≤ t - x) : Acc every (s.take (i + 1)) (f0 ++ [x]) := by
  have e : s.take (i + 1) = s.take i ++ [t] := by rw [List.take_add_one, ht]; rfl
  rw [e]
  refine ⟨fun y m => List.mem_append_left _ (h.sub y m), h.gap, fun u m => ?_⟩
  rcases List.mem_append.mp m with m | m
  · exact h.cov u m
  · rw [List.mem_singleton.mp m]
    have xm := h.sub x (by simp)
    have := take_mem srt xm ht
    exact ⟨x, by simp, this, by omega⟩
theorem Acc.add {every t : Int} {s f : List Int} {i : Nat} (h : Acc every (s.take i) f) (ht : s[i]? = some t) (e0 : 0 < every) (c : ∀ a ∈ f, a + every ≤ t) : Acc every (s.take (i + 1)) (f ++ [t]) := by
  have e : s.take (i + 1) = s.take i ++ [t] := by rw [List.take_add_one, ht]; rfl
  rw [e]
  refine ⟨fun y m => ?_, ?_, fun u m => ?_⟩
  · rcases List.mem_append.mp m with m | m
    · exact List.mem_append_left _ (h.sub y m)
    · exact List.mem_append_right _ m
  · refine List.pairwise_append.mpr ⟨h.gap, List.pairwise_singleton _ _, fun a ma b mb => ?_⟩
    rw [List.mem_singleton.mp mb]
    exact c a ma
  · rcases List.mem_append.mp m with m | m
    · obtain ⟨x, mx, a, b⟩ := h.cov u m
      exact ⟨x, List.mem_append_left _ mx, a, b⟩
    · rw [List.mem_singleton.mp m]
      exact ⟨t, by simp, Int.le_refl _, by omega⟩
theorem Acc.last {every x : Int} {s f0 : List Int} (h : Acc every s (f0 ++ [x])) (e0 : 0 < every) {t : Int} (c : every ≤ t - x) : ∀ a ∈ f0 ++ [x], a + every ≤ t := fun a m => by
  rcases List.mem_append.mp m with m | m
  · have := (List.pairwise_append.mp h.gap).2.2 a m x (by simp)
    omega
  · rw [List.mem_singleton.mp m]; omega
/-! ### a comprehension of two loops -/
def lc2Rest (g : TG) (tt : TT) (wi1 : TI) (g1 : TG) (tt1 : TT) (te : TE) (vs vs1 : List Nat) (σ : L2.St) (Q : VK) (J : It) (H1 : Hp) : Prop := ∀ D, H1 D = none → ∃ W : Nat → Nat → Hp → Prop, (∃ m, W 0 m (upd H1 D (.lst []))) ∧ ∀ i m H, W i m H →
  (J.stop i H ∧ Q (.ref D) H) ∨ (J.go i H ∧ ∃ Nx : Hp → Prop, (∀ H', Nx H' → ∃ m', m' < m ∧ W (i + 1) m' H') ∧ ∀ x H', J.yld i H x H' → g x (wipe σ vs) H' fun σ2 H2 => wipe σ2 vs = wipe σ vs ∧ tt σ2 H2 fun b H3 =>
    if b = true then wi1 σ2 H3 fun J1 H4 => ∃ W1 : Nat → Nat → Hp → Prop, (∃ m, W1 0 m H4) ∧ ∀ j k H, W1 j k H →
      (J1.stop j H ∧ Nx H) ∨ (J1.go j H ∧ ∃ Nx1 : Hp → Prop, (∀ H', Nx1 H' → ∃ k', k' < k ∧ W1 (j + 1) k' H') ∧ ∀ x H', J1.yld j H x H' → g1 x (wipe σ2 vs1) H' fun σ3 H5 => wipe σ3 vs1 = wipe σ2 vs1 ∧ tt1 σ3 H5 fun b H6 =>
        if b = true then te σ3 H6 fun y H7 => ∃ acc, H7 D = some (.lst acc) ∧ acc.length < sizeLine ∧ Nx1 (upd H7 D (.lst (acc ++ [y]))) else Nx1 H6)
    else Nx H3)
theorem lc2_rd {wi : TI} {g : TG} {tt : TT} {wi1 : TI} {g1 : TG} {tt1 : TT} {te : TE} {vs vs1 : List Nat} {σ : L2.St} {H : Hp} {Q : VK} (h : wi σ H (lc2Rest g tt wi1 g1 tt1 te vs vs1 σ Q)) : tLc2 wi g tt wi1 g1 tt1 te vs vs1 σ H Q := h
theorem lc2_it {J : It} {n : Nat} {G : Hp → Prop} {Y : Nat → Hp → V → Hp → Prop} (w : Walk J n G Y) {g : TG} {tt : TT} {wi1 : TI} {g1 : TG} {tt1 : TT} {te : TE} {vs vs1 : List Nat} {σ : L2.St} {H1 : Hp} {D : Addr} {Qd : Hp → Prop} (Pv : Nat → Hp → Prop) (h0 : Pv 0 (upd H1 D (.lst []))) (hG : ∀ i H, i ≤ n → Pv i H → G H)
    (hs : ∀ i x H H', i < n → Pv i H → Y i H x H' → g x (wipe σ vs) H' fun σ2 H2 => wipe σ2 vs = wipe σ vs ∧ tt σ2 H2 fun b H3 =>
    if b = true then wi1 σ2 H3 fun J1 H4 => ∃ W1 : Nat → Nat → Hp → Prop, (∃ m, W1 0 m H4) ∧ ∀ j k H, W1 j k H →
      (J1.stop j H ∧ Pv (i + 1) H) ∨ (J1.go j H ∧ ∃ Nx1 : Hp → Prop, (∀ H', Nx1 H' → ∃ k', k' < k ∧ W1 (j + 1) k' H') ∧ ∀ x H', J1.yld j H x H' → g1 x (wipe σ2 vs1) H' fun σ3 H5 => wipe σ3 vs1 = wipe σ2 vs1 ∧ tt1 σ3 H5 fun b H6 =>
        if b = true then te σ3 H6 fun y H7 => ∃ acc, H7 D = some (.lst acc) ∧ acc.length < sizeLine ∧ Nx1 (upd H7 D (.lst (acc ++ [y]))) else Nx1 H6)
    else Pv (i + 1) H3) (hd : ∀ H, Pv n H → Qd H) :
    ∃ W : Nat → Nat → Hp → Prop, (∃ m, W 0 m (upd H1 D (.lst []))) ∧ ∀ i m H, W i m H →
  (J.stop i H ∧ Qd H) ∨ (J.go i H ∧ ∃ Nx : Hp → Prop, (∀ H', Nx H' → ∃ m', m' < m ∧ W (i + 1) m' H') ∧ ∀ x H', J.yld i H x H' → g x (wipe σ vs) H' fun σ2 H2 => wipe σ2 vs = wipe σ vs ∧ tt σ2 H2 fun b H3 =>
    if b = true then wi1 σ2 H3 fun J1 H4 => ∃ W1 : Nat → Nat → Hp → Prop, (∃ m, W1 0 m H4) ∧ ∀ j k H, W1 j k H →
      (J1.stop j H ∧ Nx H) ∨ (J1.go j H ∧ ∃ Nx1 : Hp → Prop, (∀ H', Nx1 H' → ∃ k', k' < k ∧ W1 (j + 1) k' H') ∧ ∀ x H', J1.yld j H x H' → g1 x (wipe σ2 vs1) H' fun σ3 H5 => wipe σ3 vs1 = wipe σ2 vs1 ∧ tt1 σ3 H5 fun b H6 =>
        if b = true then te σ3 H6 fun y H7 => ∃ acc, H7 D = some (.lst acc) ∧ acc.length < sizeLine ∧ Nx1 (upd H7 D (.lst (acc ++ [y]))) else Nx1 H6)
    else Nx H3) := by
  refine ⟨fun i m H => m = n - i ∧ i ≤ n ∧ Pv i H, ⟨n, by simp, Nat.zero_le _, h0⟩, ?_⟩
  rintro i m H ⟨rfl, hi, p⟩
  have q := hG i H hi p
  by_cases hlt : i < n
  · exact .inr ⟨w.goes i H hlt q, Pv (i + 1), fun H' p' => ⟨n - (i + 1), by omega, rfl, hlt, p'⟩, fun x H' y => hs i x H H' hlt p (w.yields i H x H' hlt q y)⟩
  · have e : i = n := by omega
    subst e
    exact .inl ⟨w.stops H q, hd H p⟩
theorem in_it {J : It} {n : Nat} {G : Hp → Prop} {Y : Nat → Hp → V → Hp → Prop} (w : Walk J n G Y) {F : V → Hp → (Hp → Prop) → Prop} {H4 : Hp} {Nx : Hp → Prop} (Pv : Nat → Hp → Prop) (h0 : Pv 0 H4) (hG : ∀ i H, i ≤ n → Pv i H → G H)
    (hs : ∀ i x H H', i < n → Pv i H → Y i H x H' → F x H' (Pv (i + 1))) (hd : ∀ H, Pv n H → Nx H) :
    ∃ W1 : Nat → Nat → Hp → Prop, (∃ m, W1 0 m H4) ∧ ∀ j k H, W1 j k H → (J.stop j H ∧ Nx H) ∨ (J.go j H ∧ ∃ Nx1 : Hp → Prop, (∀ H', Nx1 H' → ∃ k', k' < k ∧ W1 (j + 1) k' H') ∧ ∀ x H', J.yld j H x H' → F x H' Nx1) := by
  refine ⟨fun i m H => m = n - i ∧ i ≤ n ∧ Pv i H, ⟨n, by simp, Nat.zero_le _, h0⟩, ?_⟩
  rintro i m H ⟨rfl, hi, p⟩
  have q := hG i H hi p
  by_cases hlt : i < n
  · exact .inr ⟨w.goes i H hlt q, Pv (i + 1), fun H' p' => ⟨n - (i + 1), by omega, rfl, hlt, p'⟩, fun x H' y => hs i x H H' hlt p (w.yields i H x H' hlt q y)⟩
  · have e : i = n := by omega
    subst e
    exact .inl ⟨w.stops H q, hd H p⟩
/-- pairs in a list -/
def PsAt (H : Hp) (vs : List V) (ps : List (Int × Int)) : Prop := vs.length = ps.length ∧ ∀ (i : Nat) p, ps[i]? = some p → ∃ t, vs[i]? = some (.ref t) ∧ H t = some (.tup [.int p.1, .int p.2])
theorem PsAt.keep {H H' : Hp} {vs : List V} {ps : List (Int × Int)} (h : PsAt H vs ps) (k : ∀ (i : Nat) t x, vs[i]? = some (.ref t) → H t = some x → H' t = some x) : PsAt H' vs ps :=
  ⟨h.1, fun i p e => let ⟨t, a, b⟩ := h.2 i p e; ⟨t, a, k i t _ a b⟩⟩
theorem PsAt.push {H : Hp} {vs : List V} {ps : List (Int × Int)} {t : Addr} {p : Int × Int} (h : PsAt H vs ps) (ht : H t = some (.tup [.int p.1, .int p.2])) : PsAt H (vs ++ [.ref t]) (ps ++ [p]) := by
  refine ⟨by simp [h.1], fun i q e => ?_⟩
  by_cases hi : i < ps.length
  · rw [List.getElem?_append_left hi] at e
    rw [List.getElem?_append_left (by rw [h.1]; exact hi)]
    exact h.2 i q e
  · have := (List.getElem?_eq_some_iff.mp e).1
    simp at this
    have ei : i = ps.length := by omega
    subst ei
    rw [List.getElem?_append_right (Nat.le_refl _)] at e
    simp at e
    subst e
    exact ⟨t, by rw [List.getElem?_append_right (by rw [h.1]; exact Nat.le_refl _), h.1]; simp, ht⟩
theorem PsAt.updL {H : Hp} {vs w zs : List V} {ps : List (Int × Int)} {D : Addr} (h : PsAt H vs ps) (hD : H D = some (.lst zs)) : PsAt (upd H D (.lst w)) vs ps :=
  ⟨h.1, fun i p e => let ⟨t, a, b⟩ := h.2 i p e; ⟨t, a, by rw [upd_ne (fun z => by rw [z, hD] at b; cases b)]; exact b⟩⟩
theorem PsAt.same {H H' : Hp} {vs : List V} {ps : List (Int × Int)} (h : PsAt H vs ps) (s : Same H H') : PsAt H' vs ps := h.keep fun _ _ _ _ e => s _ _ e
def kfH (H : Hp) : V → Int × Int
  | .ref t => match H t with
    | some (.tup [.int i, .int j]) => (i, j)
    | _ => (0, 0)
  | _ => (0, 0)
theorem kfH_at {H : Hp} {t : Addr} {p : Int × Int} (h : H t = some (.tup [.int p.1, .int p.2])) : kfH H (.ref t) = p := by
  show (match H t with | some (.tup [.int i, .int j]) => (i, j) | _ => (0, 0)) = p
  rw [h]
theorem PsAt.keys {H : Hp} {vs : List V} {ps : List (Int × Int)} (h : PsAt H vs ps) : vs.map (kfH H) = ps := by
  refine List.ext_getElem? fun i => ?_
  rw [List.getElem?_map]
  by_cases hi : i < ps.length
  · obtain ⟨p, hp⟩ : ∃ p, ps[i]? = some p := ⟨_, List.getElem?_eq_getElem hi⟩
    obtain ⟨t, a, b⟩ := h.2 i p hp
    rw [a, hp]
    show some (kfH H (.ref t)) = _
    rw [kfH_at b]
  · rw [List.getElem?_eq_none (by rw [h.1]; omega), List.getElem?_eq_none (by omega)]
    rfl
theorem PsAt.all {H : Hp} {vs : List V} {ps : List (Int × Int)} (h : PsAt H vs ps) : ∀ x ∈ vs, ∃ t, x = .ref t ∧ H t = some (.tup [.int (kfH H x).1, .int (kfH H x).2]) := fun x m => by
  obtain ⟨i, hi⟩ := List.mem_iff_getElem?.mp m
  have hlt := (List.getElem?_eq_some_iff.mp hi).1
  obtain ⟨p, hp⟩ : ∃ p, ps[i]? = some p := ⟨_, List.getElem?_eq_getElem (by rw [← h.1]; exact hlt)⟩
  obtain ⟨t, a, b⟩ := h.2 i p hp
  rw [hi] at a
  cases a
  exact ⟨t, rfl, by rw [kfH_at b]; exact b⟩
theorem PsAt.of {H : Hp} {vs : List V} (h : ∀ x ∈ vs, ∃ t, x = .ref t ∧ H t = some (.tup [.int (kfH H x).1, .int (kfH H x).2])) : PsAt H vs (vs.map (kfH H)) := by
  refine ⟨by simp, fun i p e => ?_⟩
  rw [List.getElem?_map] at e
  cases z : vs[i]? with
  | none => rw [z] at e; cases e
  | some x =>
    rw [z] at e
    obtain ⟨t, rfl, b⟩ := h x (List.mem_of_getElem? z)
    cases e
    exact ⟨t, rfl, b⟩
theorem PsAt.dp {K : PySem.W.Frag} {H : Hp} : ∀ {vs : List V} {ps : List (Int × Int)}, PsAt H vs ps → DpAll K H vs (ps.map pD)
  | [], [], _ => .nil
  | [], _ :: _, h => by have := h.1; simp at this
  | _ :: _, [], h => by have := h.1; simp at this
  | v :: vs, p :: ps, h => by
    obtain ⟨t, a, b⟩ := h.2 0 p rfl
    have a' : v = .ref t := Option.some.inj a
    subst a'
    exact .cons (.tup (SqT.of b) (.cons (.int _) (.cons (.int _) .nil))) (PsAt.dp ⟨by have := h.1; simpa using this, fun i q e => h.2 (i + 1) q (by simpa using e)⟩)
section
variable {P : Program} {w : World} {K : PySem.W.Frag} {mg : Str → Option Value} {base : Heap}
def sp_accepted (K : PySem.W.Frag) : Sp := fun vs H Q _ => ∃ (a : Addr) (ns : List Int) (ev : Int), vs = [.ref a, .int ev] ∧ H a = some (.lst (ns.map V.int)) ∧ ns.length < 64 ∧ 0 < ev ∧
  ∀ (H' : Hp) (D : Addr) (f : List Int), Same H H' → H D = none → H' D = some (.lst (f.map V.int)) → f.length ≤ ns.length → Acc ev ns f → Q (.ref D) H'
theorem ok_accepted (T : Top K mg) : FnOk P w K mg base CX0 1 T.a_accepted T.d_accepted ["times", "every"]  (sp_accepted K) := by
  refine T.F_accepted.ok sc_accepted (fun vs H Q E h => ?_) (fun cdv A outer s H vs Q E hr h => ?_)
  · obtain ⟨_, _, _, rfl, _⟩ := h
    rfl
  · obtain ⟨a, ns, ev, rfl, ha, hl, ev0, q⟩ := h
    refine ⟨_, (pss_cons (ps_set (i := 2) sc_accepted.nd rfl (by first | exact Or.inl rfl | exact Or.inr rfl) (pe_lst pa_nil))
  (pss_cons (ps_for PassesOwn.never rfl (pi_list (pe_callB cr_sortedI (by rfl) T.m_sorted (by decide +kernel) (pa_cons (pv 0) pa_nil))) (pg_name (i := 3) sc_accepted.nd rfl (by first | exact Or.inl rfl | exact Or.inr rfl))
  (pss_one (ps_if (pw_or (pt_cmpR op_eq (pe_callB call_len_seq (by rfl) T.m_len PySem.boot_len (pa_cons (pv 2) pa_nil)) pe_int (nomark _)) (pw_or1 (pt_cmpR op_ge (pe_op op_sub (pv 3) (pe_ix ix_list (pv 2) (pe_un un_neg pe_int) (fun _ _ => rfl))) (pv 1) (nomark _)))).pt
  (pss_one (ps_expr (pe_bm PySem.F.plainAttrs_list PySem.F.slot_list_append PySem.F.type_list_append mt_append (pv 2) (pa_cons (pv 3) pa_nil))))
  pss_nil)))
  (pss_one (ps_ret (pv 2))))), ?_⟩
    rw [show ∀ a0 a1 : V, L2.start ["times", "every", "found", "time"] [a0, a1] = [some a0, some a1, none, none] from fun _ _ => rfl]
    walk_at "my rn"
    intro D H1 nD s1 hD
    have ha1 := s1 _ _ ha
    walk_at "my rn"
    intro s F H2 pm srt nF s2 hF
    have hD2 := s2 _ _ hD
    have FD : F ≠ D := fun z => by rw [z, hD] at nF; cases nF
    walk_at "my rn"
    refine for_it (walk_list (xs := s.map V.int)) (fun i σ H' => ∃ (f : List Int) (y : Option V), σ = [some (.ref a), some (.int ev), some (.ref D), y] ∧ Rd.But D H2 H' ∧ H' D = some (.lst (f.map V.int)) ∧ f.length ≤ i ∧ Acc ev (s.take i) f) ⟨[], none, rfl, Rd.But.refl, hD2, Nat.le_refl _, ⟨by simp, by simp, by simp⟩⟩ (fun i σ H' _ ⟨_, _, _, b, _⟩ => SqL.of (b _ _ FD hF)) ?_ ?_
    · rintro i x σ H3 H3' hi ⟨f, y, rfl, b, hD3, lf, ac⟩ ⟨rfl, hx⟩
      rw [List.length_map] at hi
      rw [List.getElem?_map] at hx
      obtain ⟨t, ht⟩ : ∃ t, s[i]? = some t := ⟨_, List.getElem?_eq_getElem hi⟩
      rw [ht] at hx
      cases hx
      have ls : s.length = ns.length := pm.length_eq
      have add : (∀ a ∈ f, a + ev ≤ t) → ∃ (f' : List Int) (y : Option V), [some (.ref a), some (.int ev), some (.ref D), some (V.int t)] = [some (.ref a), some (.int ev), some (.ref D), y] ∧ Rd.But D H2 (upd H3' D (.lst (f.map V.int ++ [.int t]))) ∧ (upd H3' D (.lst (f.map V.int ++ [.int t]))) D = some (.lst (f'.map V.int)) ∧ f'.length ≤ i + 1 ∧ Acc ev (s.take (i + 1)) f' :=
        fun c => ⟨f ++ [t], _, rfl, b.trans Rd.But.at_, by rw [upd_same, List.map_append]; rfl, by simp; omega, ac.add ht ev0 c⟩
      walk_at "my rn"
      rcases List.eq_nil_or_concat f with rfl | ⟨f0, z, rfl⟩
      · refine Rd.ifT ?_
        walk_at "my rn"
        refine Rd.app hD3 (by decide) ?_
        exact add (by simp)
      · rw [List.concat_eq_append] at *
        rw [decide_eq_false (by simp; intro z; omega)]
        refine Rd.ifF ?_
        have hD4 := hD3
        rw [List.map_append, List.map_singleton] at hD4
        walk_at "my rn"
        refine Rd.ixL hD4 (atI_last _ _) ?_
        walk_at "my rn"
        refine Rd.ifD (fun c => ?_) (fun c => ?_)
        · walk_at "my rn"
          refine Rd.app hD3 (Rd.szl (by rw [List.length_map]; omega)) ?_
          exact add (ac.last ev0 c)
        · walk_at "my rn"
          exact ⟨_, _, rfl, b, hD3, by omega, ac.skip srt ht c⟩
    · rintro σ H3 ⟨f, y, rfl, b, hD3, lf, ac⟩
      rw [List.length_map, List.take_length] at ac
      rw [List.length_map] at lf
      walk_at "my rn"
      have sF : Same H H3 := fun x u e => b x u (fun z => by rw [z, nD] at e; cases e) (s2 _ _ (s1 _ _ e))
      exact q _ D f sF nD hD3 (by rw [← pm.length_eq]; exact lf) ⟨fun x m => (pm.mem_iff).mp (ac.sub x m), ac.gap, fun x m => ac.cov x (pm.mem_iff.mpr m)⟩
def FaG (K : PySem.W.Frag) (f : Str) (tv : TE) (rd : V → V → Hp → VK → Prop) (D : Ends) (σ : L2.St) (x : V) (H1 : Hp) : Prop := ∃ a C dx fs v, x = .ref a ∧ H1 a = some (.ins C dx fs) ∧ Cls K C ∧ NoAttr K C f ∧ fs.lookup f = some v ∧
  tv σ H1 fun y H2 => rd v y H2 fun z H3 => ∃ dx' fs', H3 a = some (.ins C dx' fs') ∧ fs'.length < 1000 ∧ D.nx σ (upd H3 a (.ins C dx' (putF f z fs')))
theorem fa_rd {K : PySem.W.Frag} {ta tv : TE} {rd : V → V → Hp → VK → Prop} {f : Str} {D : Ends} {σ : L2.St} {H : Hp} (h : ta σ H fun x H1 => FaG K f tv rd D σ x H1) : sFldAug K ta tv rd f D σ H := h
def flatP (rs : List (Int × List Int)) : List (Int × Int) := rs.flatMap fun r => r.2.map fun t => (t, r.1)
/-- rows: pairs of a number and a list of times -/
def RwAt (K : PySem.W.Frag) (H : Hp) (A : Addr) (rs : List (Int × List Int)) : Prop := ∃ vs, SqL K H A vs ∧ vs.length = rs.length ∧ ∀ (i : Nat) r, rs[i]? = some r → ∃ t l, vs[i]? = some (.ref t) ∧ H t = some (.tup [.int r.1, .ref l]) ∧ H l = some (.lst (r.2.map V.int))
theorem RwAt.same {K : PySem.W.Frag} {H H' : Hp} {A : Addr} {rs : List (Int × List Int)} (h : RwAt K H A rs) (s : Same H H') : RwAt K H' A rs := by
  obtain ⟨vs, a, b, c⟩ := h
  exact ⟨vs, s.seq a, b, fun i r e => let ⟨t, l, x, y, z⟩ := c i r e; ⟨t, l, x, s _ _ y, s _ _ z⟩⟩
def leP (a b : Int × Int) : Prop := ¬ ltPr b a
def tlf (Cm : Addr) (k : Int) : List (Str × V) := [("coming", .ref Cm), ("taken", .int k)]
theorem tlf_c {Cm : Addr} {k : Int} : (tlf Cm k).lookup ("coming" : Str) = some (.ref Cm) := by with_unfolding_all rfl
theorem tlf_t {Cm : Addr} {k : Int} : (tlf Cm k).lookup ("taken" : Str) = some (.int k) := by with_unfolding_all rfl
theorem tlf_put {Cm : Addr} {k : Int} : putF "taken" (.int k) (putF "coming" (.ref Cm) []) = tlf Cm k := by with_unfolding_all rfl
theorem tlf_put2 {Cm : Addr} {k k' : Int} : putF "taken" (.int k') (tlf Cm k) = tlf Cm k' := by with_unfolding_all rfl
/-- a timeline: the object alone changes -/
structure TlAt (C : Addr) (H : Hp) (o dx Cm : Addr) (vs : List V) (ps : List (Int × Int)) (k : Nat) : Prop where
  ob : H o = some (.ins C dx (tlf Cm k))
  hC : H Cm = some (.lst vs)
  pa : PsAt H vs ps
  kn : k ≤ ps.length
theorem TlAt.keep {C o dx Cm : Addr} {H H' : Hp} {vs : List V} {ps : List (Int × Int)} {k : Nat} (h : TlAt C H o dx Cm vs ps k) (s : Same H H') : TlAt C H' o dx Cm vs ps k :=
  { h with ob := s _ _ h.ob, hC := s _ _ h.hC, pa := h.pa.keep fun _ _ _ _ e => s _ _ e }
def sp_Timeline_init (C : Addr) (K : PySem.W.Frag) : Sp := fun vs H Q _ => ∃ (o dx A : Addr) (rs : List (Int × List Int)), vs = [.ref o, .ref A] ∧ H o = some (.ins C dx []) ∧ RwAt K H A rs ∧ rs.length ≤ 4 ∧ (∀ r ∈ rs, r.2.length ≤ 13) ∧
  ∀ H' Cm zs ps, TlAt C H' o dx Cm zs ps 0 → ps.Perm (flatP rs) → ps.Pairwise leP → (∀ b x, b ≠ o → H b = some x → H' b = some x) → Q .non H'
theorem ok_Timeline_init (T : Top K mg) : FnOk P w K mg base CX0 1 T.a_Timeline_init T.d_Timeline_init ["self", "rows"]  (sp_Timeline_init T.C_Timeline K) := by
  refine T.F_Timeline_init.ok sc_Timeline_init (fun vs H Q E h => ?_) (fun cdv A outer s H vs Q E hr h => ?_)
  · obtain ⟨_, _, _, _, rfl, _⟩ := h
    rfl
  · obtain ⟨o, dx, A', rs, rfl, ho, hR, lr, lt, q⟩ := h
    obtain ⟨rv, hR1, hR2, hR3⟩ := hR
    have c1 := T.cl_Timeline
    have c2 := T.n_Timeline_coming
    have c3 := T.n_Timeline_taken
    refine ⟨_, (pss_cons (ps_fld (pv 0) (pe_callB cr_sortedPO (by rfl) T.m_sorted (by decide +kernel) (pa_cons (pe_lc2 (own := [("number", 2), ("times", 3), ("time", 4)]) (vs1 := [4]) (g := (gTup K 2 (gCons (gName 2) (gCons (gName 3) gNil)))) (g1 := (gName 4)) (tt := tYes) (tt1 := tYes) rfl sc_Timeline_init.nd (pi_list (pv 1)) (blkOk_by (N := ["self", "rows", "number", "times", "time"]) (sc := defScope s_Timeline_init) (by decide +kernel)) (by decide) (fun _ _ _ _ _ => (pg_tup rfl (pgs_cons (pg_name (i := 2) sc_Timeline_init.nd rfl (Or.inl rfl)) (pgs_cons (pg_name (i := 3) sc_Timeline_init.nd rfl (Or.inl rfl)) pgs_nil)))) (fun _ _ _ _ _ => pts_nil) (fun _ _ _ _ _ => (show PI _ _ _ (iList K _) from (pi_list (pv 3)))) (fun _ _ _ _ _ => (pg_name (i := 4) sc_Timeline_init.nd rfl (Or.inl rfl))) (fun _ _ _ _ _ => pts_nil) (fun _ _ _ _ _ => (pe_tup (pa_cons (pv 4) (pa_cons (pv 2) pa_nil))))) pa_nil)) rfl)
  (pss_one (ps_fld (pv 0) pe_int rfl))), ?_⟩
    rw [show ∀ a0 a1 : V, L2.start ["self", "rows", "number", "times", "time"] [a0, a1] = [some a0, some a1, none, none, none] from fun _ _ => rfl]
    walk_at "my rn"
    refine lc2_rd ?_
    walk_at "my rn"
    intro D nD
    have fl : ∀ (i : Nat) (r : Int × List Int), rs[i]? = some r → flatP (rs.take (i + 1)) = flatP (rs.take i) ++ r.2.map fun t => (t, r.1) := fun i r e => by
      unfold flatP
      rw [List.take_add_one, e, List.flatMap_append]
      simp
    have fln : ∀ i, i ≤ rs.length → (flatP (rs.take i)).length ≤ 13 * i := fun i => by
      induction i with
      | zero => intro _; simp [flatP]
      | succ i ih =>
        intro hi
        obtain ⟨r, hr⟩ : ∃ r, rs[i]? = some r := ⟨_, List.getElem?_eq_getElem (by omega)⟩
        have := ih (by omega)
        have := lt r (List.mem_of_getElem? hr)
        rw [fl i r hr]
        simp
        omega
    refine lc2_it (walk_list (xs := rv)) (fun i H' => ∃ zs, H' D = some (.lst zs) ∧ PsAt H' zs (flatP (rs.take i)) ∧ Rd.But D H H') ⟨[], upd_same, ⟨rfl, fun i p e => by simp [flatP] at e⟩, Rd.But.at_⟩ (fun i H' _ ⟨_, _, _, b⟩ => (b.to nD).seq hR1) (fun i x H3 H3' hi ⟨zs, hD3, pa, b⟩ ⟨e3, hx⟩ => ?_) (fun H3 ⟨zs, hD3, pa, b⟩ => ?_)
    · subst e3
      obtain ⟨r, hr⟩ : ∃ r, rs[i]? = some r := ⟨_, List.getElem?_eq_getElem (by omega)⟩
      obtain ⟨t, l, ht, hT, hl⟩ := hR3 i r hr
      rw [ht] at hx
      cases hx
      have hT3 := (b.to nD) _ _ hT
      have hl3 := (b.to nD) _ _ hl
      have lr2 := lt r (List.mem_of_getElem? hr)
      have lf := fln i (by omega)
      simp only [List.map_cons, List.map_nil, L2.wipe, List.set_cons_succ, List.set_cons_zero]
      refine Rd.gtup hT3 rfl ?_
      walk_at "my rn"
      refine ⟨rfl, ?_⟩
      walk_at "my rn"
      refine in_it (walk_list (xs := r.2.map V.int)) (fun j H' => ∃ zs, H' D = some (.lst zs) ∧ PsAt H' zs (flatP (rs.take i) ++ (r.2.take j).map fun t => (t, r.1)) ∧ Rd.But D H H') ⟨zs, hD3, by simpa using pa, b⟩ (fun j H' _ ⟨_, _, _, b⟩ => (b.to nD).seq (SqL.of hl)) (fun j x H4 H4' hj ⟨zs, hD4, pa4, b4⟩ ⟨e4, hx⟩ => ?_) (fun H4 ⟨zs, hD4, pa4, b4⟩ => ⟨zs, hD4, by rw [List.length_map, List.take_length] at pa4; rw [fl i r hr]; exact pa4, b4⟩)
      subst e4
      rw [List.length_map] at hj
      rw [List.getElem?_map] at hx
      obtain ⟨tm, htm⟩ : ∃ tm, r.2[j]? = some tm := ⟨_, List.getElem?_eq_getElem hj⟩
      rw [htm] at hx
      cases hx
      simp only [List.map_cons, List.map_nil, L2.wipe, List.set_cons_succ, List.set_cons_zero]
      walk_at "my rn"
      refine ⟨rfl, ?_⟩
      walk_at "my rn"
      intro tp H5 nt s5 hT5
      have hD5 := s5 _ _ hD4
      have pa5 := (pa4.same s5).push (t := tp) (p := (tm, r.1)) hT5
      refine ⟨zs, hD5, Rd.szl (by rw [pa4.1]; simp; omega), zs ++ [.ref tp], upd_same, ?_, (b4.trans (Rd.But.same s5)).trans Rd.But.at_⟩
      have ej : (r.2.take (j + 1)).map (fun t => (t, r.1)) = (r.2.take j).map (fun t => (t, r.1)) ++ [(tm, r.1)] := by rw [List.take_add_one, htm, List.map_append]; rfl
      rw [ej, ← List.append_assoc]
      exact pa5.updL hD5
    · rw [hR2, List.take_length] at pa
      have sm := b.to nD
      walk_at "my rn"
      refine ⟨D, zs, kfH H3, rfl, SqL.of hD3, pa.all, fun ys p srt stb np => ?_⟩
      have pys : PsAt H3 ys (ys.map (kfH H3)) := PsAt.of fun x m => pa.all x (stb.perm.mem_iff.mp m)
      have perm : (ys.map (kfH H3)).Perm (flatP rs) := by
        have := stb.perm.map (kfH H3)
        rw [pa.keys] at this
        exact this
      have sorted : (ys.map (kfH H3)).Pairwise leP := by
        refine List.pairwise_map.mpr (srt.imp fun {x y} h => ?_)
        have h2 := SrtO.lexB_no.mp h
        unfold leP ltPr
        omega
      obtain ⟨H4, e4⟩ : ∃ H4, H4 = upd H3 p (.lst ys) := ⟨_, rfl⟩
      rw [← e4]
      have s34 : Same H3 H4 := by rw [e4]; exact same_new np
      have hp4 : H4 p = some (.lst ys) := by rw [e4]; exact upd_same
      have ho4 := s34 _ _ (sm _ _ ho)
      have op : p ≠ o := fun z => by rw [z, ho4] at hp4; cases hp4
      walk_at "my rn"
      obtain ⟨H5, e5⟩ : ∃ H5, H5 = upd H4 o (.ins T.C_Timeline dx (putF "coming" (.ref p) [])) := ⟨_, rfl⟩
      rw [← e5]
      have ho5 : H5 o = some (.ins T.C_Timeline dx (putF "coming" (.ref p) [])) := by rw [e5]; exact upd_same
      walk_at "my rn"
      rw [tlf_put]
      have k46 : ∀ b x, b ≠ o → H4 b = some x → (upd H5 o (.ins T.C_Timeline dx (tlf p 0))) b = some x := fun b x n e => by rw [upd_ne n, e5, upd_ne n]; exact e
      refine q _ p ys (ys.map (kfH H3)) ⟨upd_same, k46 _ _ op hp4, ⟨pys.1, fun i p' e => ?_⟩, Nat.zero_le _⟩ perm sorted fun b x n e => k46 b x n (s34 _ _ (sm _ _ e))
      obtain ⟨t, a, b⟩ := pys.2 i p' e
      have b4 := s34 _ _ b
      exact ⟨t, a, k46 _ _ (fun z => by rw [z, ho4] at b4; cases b4) b4⟩
def sp_Timeline_next_time (C : Addr) : Sp := fun vs H Q _ => ∃ (o dx Cm : Addr) (zs : List V) (ps : List (Int × Int)) (k : Nat), vs = [.ref o] ∧ TlAt C H o dx Cm zs ps k ∧ Q (match ps[k]? with | some p => .int p.1 | none => .non) H
theorem ok_Timeline_next_time (T : Top K mg) : FnOk P w K mg base CX0 1 T.a_Timeline_next_time T.d_Timeline_next_time ["self"]  (sp_Timeline_next_time T.C_Timeline) := by
  refine T.F_Timeline_next_time.ok sc_Timeline_next_time (fun vs H Q E h => ?_) (fun cdv A outer s H vs Q E hr h => ?_)
  · obtain ⟨_, _, _, _, _, _, rfl, _⟩ := h
    rfl
  · obtain ⟨o, dx, Cm, zs, ps, k, rfl, h, q⟩ := h
    have c1 := T.cl_Timeline
    have c2 := T.n_Timeline_coming
    have c3 := T.n_Timeline_taken
    have f1 := tlf_c (Cm := Cm) (k := k)
    have f2 := tlf_t (Cm := Cm) (k := k)
    have h1 := h.ob
    have h2 := h.hC
    have kn := h.kn
    obtain ⟨pl, pg⟩ := h.pa
    refine ⟨_, (pss_cons (ps_if (pt_cmpR op_eq (pe_fld (pv 0) rfl) (pe_callB call_len_seq (by rfl) T.m_len PySem.boot_len (pa_cons (pe_fld (pv 0) rfl) pa_nil)) (nomark _))
  (pss_one (ps_ret pe_non))
  pss_nil)
  (pss_one (ps_ret (pe_ix ix_tup (pe_ix ix_list (pe_fld (pv 0) rfl) (pe_fld (pv 0) rfl) (fun _ _ => rfl)) pe_int (fun _ _ => rfl))))), ?_⟩
    rw [show ∀ a0 : V, L2.start ["self"] [a0] = [some a0] from fun _ => rfl]
    walk_at "my rn"
    by_cases e : k = ps.length
    · rw [decide_eq_true (by rw [e, pl])]
      refine Rd.ifT ?_
      walk_at "my rn"
      rw [List.getElem?_eq_none (by omega)] at q
      exact q
    · rw [decide_eq_false (fun z => e (by have := V.int.inj z; omega))]
      refine Rd.ifF ?_
      obtain ⟨p, hp⟩ : ∃ p, ps[k]? = some p := ⟨_, List.getElem?_eq_getElem (by omega)⟩
      obtain ⟨t, ht, hT⟩ := pg k p hp
      rw [hp] at q
      walk_at "my rn"
      refine Rd.ixL h2 (Rd.at_val (j := k) rfl ht) ?_
      walk_at "my rn"
      exact q
def sp_Timeline_take (C : Addr) : Sp := fun vs H Q _ => ∃ (o dx Cm : Addr) (zs : List V) (ps : List (Int × Int)) (k : Nat), vs = [.ref o] ∧ TlAt C H o dx Cm zs ps k ∧
  (ps[k]? = none → Q .non H) ∧ ∀ p t, ps[k]? = some p → zs[k]? = some (.ref t) → Q (.ref t) (upd H o (.ins C dx (tlf Cm ((k + 1 : Nat) : Int))))
theorem ok_Timeline_take (T : Top K mg) : FnOk P w K mg base CX0 1 T.a_Timeline_take T.d_Timeline_take ["self"]  (sp_Timeline_take T.C_Timeline) := by
  refine T.F_Timeline_take.ok sc_Timeline_take (fun vs H Q E h => ?_) (fun cdv A outer s H vs Q E hr h => ?_)
  · obtain ⟨_, _, _, _, _, _, rfl, _⟩ := h
    rfl
  · obtain ⟨o, dx, Cm, zs, ps, k, rfl, h, q1, q2⟩ := h
    have c1 := T.cl_Timeline
    have c2 := T.n_Timeline_coming
    have c3 := T.n_Timeline_taken
    have f1 := tlf_c (Cm := Cm) (k := k)
    have f2 := tlf_t (Cm := Cm) (k := k)
    have h1 := h.ob
    have h2 := h.hC
    have kn := h.kn
    obtain ⟨pl, pg⟩ := h.pa
    refine ⟨_, (pss_cons (ps_if (pt_cmpR op_eq (pe_fld (pv 0) rfl) (pe_callB call_len_seq (by rfl) T.m_len PySem.boot_len (pa_cons (pe_fld (pv 0) rfl) pa_nil)) (nomark _))
  (pss_one (ps_ret pe_non))
  pss_nil)
  (pss_cons (ps_fldaug (pv 0) pe_int in_add)
  (pss_one (ps_ret (pe_ix ix_list (pe_fld (pv 0) rfl) (pe_op op_sub (pe_fld (pv 0) rfl) pe_int) (fun _ _ => rfl)))))), ?_⟩
    rw [show ∀ a0 : V, L2.start ["self"] [a0] = [some a0] from fun _ => rfl]
    walk_at "my rn"
    by_cases e : k = ps.length
    · rw [decide_eq_true (by rw [e, pl])]
      refine Rd.ifT ?_
      walk_at "my rn"
      exact q1 (List.getElem?_eq_none (by omega))
    · rw [decide_eq_false (fun z => e (by have := V.int.inj z; omega))]
      refine Rd.ifF ?_
      obtain ⟨p, hp⟩ : ∃ p, ps[k]? = some p := ⟨_, List.getElem?_eq_getElem (by omega)⟩
      obtain ⟨t, ht, hT⟩ := pg k p hp
      walk_at "my rn"
      refine fa_rd ?_
      walk_at "my rn"
      refine ⟨o, _, dx, _, _, rfl, h1, c1, c3, f2, ?_⟩
      refine Rd.c_ ?_
      refine ⟨_, _, rfl, rfl, dx, _, h1, by show 2 < 1000; decide, ?_⟩
      rw [tlf_put2]
      have oC : Cm ≠ o := fun z => by rw [z, h1] at h2; cases h2
      have f1' := tlf_c (Cm := Cm) (k := ((k : Nat) : Int) + 1)
      have f2' := tlf_t (Cm := Cm) (k := ((k : Nat) : Int) + 1)
      have hC2 : (upd H o (.ins T.C_Timeline dx (tlf Cm (((k : Nat) : Int) + 1)))) Cm = some (.lst zs) := by rw [upd_ne oC]; exact h2
      walk_at "my rn"
      refine Rd.ixL hC2 (Rd.at_val (j := k) (by omega) ht) ?_
      exact q2 p t hp ht
end

end Mine

set_option Elab.async false
set_option linter.all false
set_option maxRecDepth 100000
set_option maxHeartbeats 1000000

namespace Mine
open PySem PySem.Spec PyProof.Rows L2
local macro_rules | `(tactic| walk_at "my rn") => `(tactic| (repeat (first | with_reducible refine Rd.fld ?_ | with_reducible refine Rd.sfld ?_ | with_reducible refine Rd.meth ?_ | with_reducible refine Rd.make ?_ | with_reducible refine Rd.izip ?_ | with_reducible refine Rd.ckw ?_ | with_reducible refine Rd.dsetd ?_ | with_reducible refine Rd.ddel ?_ | with_reducible refine Rd.dnew ?_ | with_reducible refine Rd.din ?_ | with_reducible refine Rd.dnot ?_ | with_reducible refine Rd.dget ?_ | with_reducible refine Rd.dget2 ?_ | with_reducible refine Rd.dput ?_ | with_reducible refine Rd.cbDictOf ?_ | with_reducible refine Rd.iitems ?_ | with_reducible refine Rd.ikeys ?_ | with_reducible refine Rd.dc ?_ | with_reducible refine Rd.nwD ?_ | with_reducible refine Rd.tupN ?_ | with_reducible refine Rd.lstN ?_ | with_reducible refine Rd.cbListOf ?_ | with_reducible refine Rd.cbListOfR ?_ | with_reducible refine Rd.catI ?_ | with_reducible refine Rd.slN ?_ | with_reducible refine Rd.cbSrtI ?_ | with_reducible refine Rd.seq ?_ | with_reducible refine Rd.next ?_ | with_reducible refine Rd.brk ?_ | with_reducible refine Rd.cont ?_ | with_reducible refine Rd.asg ?_ | with_reducible refine Rd.ret ?_ | with_reducible refine Rd.retN ?_ | with_reducible refine Rd.drop ?_ | with_reducible refine Rd.ifs ?_ | with_reducible refine Rd.ife ?_ | with_reducible refine Rd.test ?_ | with_reducible refine Rd.tb_ ?_ | with_reducible refine Rd.bl ?_ | with_reducible refine Rd.bl2 ?_ | with_reducible refine Rd.and_ ?_ | with_reducible refine Rd.or_ ?_ | with_reducible refine Rd.not_ ?_ | with_reducible refine Rd.andV ?_ | with_reducible refine Rd.orV ?_ | with_reducible refine Rd.notV ?_ | with_reducible refine Rd.op ?_ | with_reducible refine Rd.un ?_ | with_reducible refine Rd.I0 ?_ | with_reducible refine Rd.U ?_ | with_reducible refine Rd.ip ?_ | with_reducible refine Rd.c_ ?_ | with_reducible refine Rd.nil ?_ | with_reducible refine Rd.cons ?_ | with_reducible refine Rd.call ?_ | with_reducible refine Rd.cb ?_ | with_reducible refine Rd.bm ?_ | with_reducible refine Rd.bm0 ?_ | with_reducible refine Rd.nopart ?_ | with_reducible refine Rd.part ?_ | with_reducible refine Rd.int1 ?_ | with_reducible refine Rd.ints1 ?_ | with_reducible refine Rd.ints2 ?_ | with_reducible refine Rd.gcons ?_ | with_reducible refine Rd.gnil ?_ | with_reducible refine Rd.sub ?_ | with_reducible refine Rd.isN ?_ | with_reducible refine Rd.chain ?_ | with_reducible refine Rd.rf ?_ | with_reducible refine Rd.tyS ?_ | with_reducible refine Rd.intI ?_ | with_reducible refine Rd.lc ?_ | with_reducible refine Rd.for_ ?_ | with_reducible refine Rd.ilist ?_ | with_reducible refine Rd.itup ?_ | with_reducible refine Rd.irng1 ?_ | with_reducible refine Rd.irng2 ?_ | with_reducible refine Rd.ienum ?_ | with_reducible refine Rd.istr ?_ | with_reducible refine Rd.refA ?_ | with_reducible refine Rd.strA ?_ | with_reducible refine Rd.yes ?_ | with_reducible refine Rd.ifT ?_ | with_reducible refine Rd.ifF ?_ | with_reducible refine Rd.ifnT ?_ | with_reducible refine Rd.ifnF ?_ | with_reducible refine Rd.isi_ii ?_ | with_reducible refine Rd.isi_ib ?_ | with_reducible refine Rd.isi_is ?_ | with_reducible refine Rd.isi_il ?_ | with_reducible refine Rd.isi_it ?_ | with_reducible refine Rd.isi_id ?_ | with_reducible refine Rd.isi_bi ?_ | with_reducible refine Rd.isi_bb ?_ | with_reducible refine Rd.isi_bs ?_ | with_reducible refine Rd.isi_bl ?_ | with_reducible refine Rd.isi_bt ?_ | with_reducible refine Rd.isi_bd ?_ | with_reducible refine Rd.isi_si ?_ | with_reducible refine Rd.isi_sb ?_ | with_reducible refine Rd.isi_ss ?_ | with_reducible refine Rd.isi_sl ?_ | with_reducible refine Rd.isi_st ?_ | with_reducible refine Rd.isi_sd ?_ | with_reducible refine Rd.isi_ni ?_ | with_reducible refine Rd.isi_nb ?_ | with_reducible refine Rd.isi_ns ?_ | with_reducible refine Rd.isi_nl ?_ | with_reducible refine Rd.isi_nt ?_ | with_reducible refine Rd.isi_nd ?_ | with_reducible refine Rd.sl ?_ | with_reducible refine Rd.v0 ?_ | with_reducible refine Rd.v1 ?_ | with_reducible refine Rd.v2 ?_ | with_reducible refine Rd.v3 ?_ | with_reducible refine Rd.v4 ?_ | with_reducible refine Rd.v5 ?_ | with_reducible refine Rd.v6 ?_ | with_reducible refine Rd.v7 ?_ | with_reducible refine Rd.v8 ?_ | with_reducible refine Rd.v9 ?_ | with_reducible refine Rd.v10 ?_ | with_reducible refine Rd.v11 ?_ | with_reducible refine Rd.v12 ?_ | with_reducible refine Rd.v13 ?_ | with_reducible refine Rd.v14 ?_ | with_reducible refine Rd.v15 ?_ | with_reducible refine Rd.n0 ?_ | with_reducible refine Rd.n1 ?_ | with_reducible refine Rd.n2 ?_ | with_reducible refine Rd.n3 ?_ | with_reducible refine Rd.n4 ?_ | with_reducible refine Rd.n5 ?_ | with_reducible refine Rd.n6 ?_ | with_reducible refine Rd.n7 ?_ | with_reducible refine Rd.n8 ?_ | with_reducible refine Rd.n9 ?_ | with_reducible refine Rd.n10 ?_ | with_reducible refine Rd.n11 ?_ | with_reducible refine Rd.n12 ?_ | with_reducible refine Rd.n13 ?_ | with_reducible refine Rd.n14 ?_ | with_reducible refine Rd.n15 ?_ | with_reducible refine Rd.g0 ?_ | with_reducible refine Rd.g1 ?_ | with_reducible refine Rd.g2 ?_ | with_reducible refine Rd.g3 ?_ | with_reducible refine Rd.g4 ?_ | with_reducible refine Rd.g5 ?_ | with_reducible refine Rd.g6 ?_ | with_reducible refine Rd.g7 ?_ | with_reducible refine Rd.g8 ?_ | with_reducible refine Rd.g9 ?_ | with_reducible refine Rd.g10 ?_ | with_reducible refine Rd.g11 ?_ | with_reducible refine Rd.g12 ?_ | with_reducible refine Rd.g13 ?_ | with_reducible refine Rd.g14 ?_ | with_reducible refine Rd.g15 ?_ | ((with_reducible apply Rd.fldI); (first | assumption | exact upd_same); assumption; assumption; (first | assumption | with_unfolding_all rfl)) | ((with_reducible apply Rd.methI); (first | assumption | exact upd_same); (first | assumption | with_unfolding_all rfl)) | ((with_reducible apply Rd.sfldI); (first | assumption | exact upd_same); assumption; assumption; exact Nat.le_of_ble_eq_true rfl) | ((with_reducible apply Rd.maxL); assumption) | ((with_reducible apply Rd.anyL); assumption) | ((with_reducible apply Rd.sumL); assumption) | ((with_reducible refine Rd.izI (by assumption) (by assumption) ?_)) | ((with_reducible refine Rd.eq ?_ ?_); exact rfl) | ((with_reducible refine Rd.ne ?_ ?_); exact rfl) | ((with_reducible refine Rd.szA ?_ ?_); exact Nat.le_of_ble_eq_true rfl) | ((with_reducible refine Rd.I ?_ ?_); first | assumption | decide | exact Or.inr (by decide +kernel) | exact Or.inl (by decide +kernel) | exact ⟨by decide, by decide⟩ | exact ⟨by decide, by decide, by decide⟩ | omega) | ((with_reducible apply Rd.tyL); first | assumption | exact upd_same) | ((with_reducible apply Rd.tyLq); assumption) | ((with_reducible apply Rd.ixL); (first | assumption | exact upd_same); exact rfl) | ((with_reducible apply Rd.ixT); (first | assumption | exact upd_same); exact rfl) | ((with_reducible apply Rd.ixLq); assumption; exact rfl) | ((with_reducible apply Rd.ixTq); assumption; exact rfl) | ((with_reducible apply Rd.gtup); (first | assumption | exact upd_same); exact rfl) | ((with_reducible apply Rd.gtupq); assumption; exact rfl) | ((with_reducible apply Rd.sqAq); assumption) | ((with_reducible apply Rd.stAq); assumption) | ((with_reducible apply Rd.enAq); assumption) | ((with_reducible apply Rd.lenLq); assumption) | ((with_reducible apply Rd.lenTq); assumption) | ((with_reducible apply Rd.sqA); first | assumption | exact upd_same) | ((with_reducible apply Rd.stA); first | assumption | exact upd_same) | ((with_reducible apply Rd.enA); first | assumption | exact upd_same) | ((with_reducible apply Rd.lenL); first | assumption | exact upd_same) | ((with_reducible apply Rd.lenT); first | assumption | exact upd_same) | ((with_reducible refine Rd.nwT ?_ ?_); exact Nat.le_of_ble_eq_true rfl) | ((with_reducible refine Rd.nwL ?_ ?_); exact Nat.le_of_ble_eq_true rfl) | ((with_reducible apply Rd.isd); assumption) | ((with_reducible apply Rd.dictOf); assumption) | ((with_reducible refine Rd.isi_dd (by assumption) ?_)) | ((with_reducible apply Rd.itA); first | assumption | exact upd_same) | ((with_reducible apply Rd.ikA); first | assumption | exact upd_same) | ((with_reducible apply Rd.listOf); assumption) | ((with_reducible apply Rd.listOfq); assumption) | ((with_reducible apply Rd.slo); assumption) | ((with_reducible apply Rd.slq); assumption) | ((with_reducible apply Rd.srtI); assumption) | ((with_reducible apply Rd.srtIo); assumption) | ((with_reducible refine Rd.isi_li (by assumption) ?_)) | ((with_reducible refine Rd.isi_lb (by assumption) ?_)) | ((with_reducible refine Rd.isi_ls (by assumption) ?_)) | ((with_reducible refine Rd.isi_ll (by assumption) ?_)) | ((with_reducible refine Rd.isi_lt (by assumption) ?_)) | ((with_reducible refine Rd.isi_ld (by assumption) ?_)) | ((with_reducible refine Rd.isi_ti (by assumption) ?_)) | ((with_reducible refine Rd.isi_tb (by assumption) ?_)) | ((with_reducible refine Rd.isi_ts (by assumption) ?_)) | ((with_reducible refine Rd.isi_tl (by assumption) ?_)) | ((with_reducible refine Rd.isi_tt (by assumption) ?_)) | ((with_reducible refine Rd.isi_td (by assumption) ?_)))))
/-- a comprehension over a range whose elements are drawn ints -/
theorem lc_draw {n : Nat} {g : TG} {te : TE} {vs : List Nat} {σ : L2.St} {H1 : Hp} {D p c : Addr} {Qd : Hp → Prop} (G : Int → Prop) (st : StOk H1 p c) (nD : H1 D = none) (hn : n ≤ 90000)
    (hs : ∀ (i : Nat) H (Kt : VK), i < n → StOk H p c → (∀ v H4, G v → StOk H4 p c → Keep p H H4 → Kt (.int v) H4) → g (.int (i : Int)) (wipe σ vs) H fun σ2 H2 => wipe σ2 vs = wipe σ vs ∧ te σ2 H2 Kt)
    (hd : ∀ H (ns : List Int), ns.length = n → (∀ v ∈ ns, G v) → StOk H p c → Keep p H1 H → H D = some (.lst (ns.map V.int)) → Qd H) :
    ∃ W : Nat → Nat → Hp → Prop, (∃ m, W 0 m (upd H1 D (.lst []))) ∧ ∀ i m H, W i m H →
      ((Itr 0 n).stop i H ∧ Qd H) ∨ ((Itr 0 n).go i H ∧ ∃ Nx : Hp → Prop, (∀ H', Nx H' → ∃ m', m' < m ∧ W (i + 1) m' H') ∧ ∀ x H', (Itr 0 n).yld i H x H' → g x (wipe σ vs) H' fun σ2 H2 => wipe σ2 vs = wipe σ vs ∧ tYes σ2 H2 fun b H3 =>
        if b = true then te σ2 H3 fun y H4 => ∃ acc, H4 D = some (.lst acc) ∧ acc.length < sizeLine ∧ Nx (upd H4 D (.lst (acc ++ [y]))) else Nx H3) := by
  have pD := st.ne nD
  have stk : ∀ {H H' : Hp} {o : HO}, StOk H' p c → StOk (upd H' D o) p c := fun s => by
    obtain ⟨ms, k, v, sd, a, b, d, r⟩ := s
    exact ⟨ms, k, v, sd, a, by rw [upd_ne pD.1.symm]; exact b, by rw [upd_ne pD.2.symm]; exact d, r⟩
  refine lc_it walk_range (fun i H => ∃ ns : List Int, ns.length = i ∧ (∀ v ∈ ns, G v) ∧ StOk H p c ∧ Keep p H1 H ∧ H D = some (.lst (ns.map V.int))) ⟨[], rfl, by simp, stk (H := H1) st, Keep.same (same_new nD), upd_same⟩ (fun _ _ _ _ => trivial) (fun i x H H' hi h y => ?_) (fun H ⟨ns, a, b, d, e, f⟩ => hd H ns a b d e f)
  obtain ⟨ns, ln, gn, s1, k1, hD⟩ := h
  obtain ⟨rfl, e⟩ := Rd.zr y
  subst e
  refine hs i _ _ hi s1 fun v H4 gv s4 k4 => ?_
  have hD4 := k4 _ _ pD.1 hD
  refine ⟨_, hD4, Rd.szl (by rw [List.length_map]; omega), ns ++ [v], by simp [ln], fun u m => ?_, stk (H := H4) s4, fun b o n1 h => ?_, by rw [upd_same, List.map_append]; rfl⟩
  · rcases List.mem_append.mp m with m | m
    · exact gn u m
    · rw [List.mem_singleton.mp m]; exact gv
  · have nb : b ≠ D := fun z => by rw [z, nD] at h; cases h
    rw [upd_ne nb]
    exact k4 b o n1 (k1 b o n1 h)

/-! ### the law -/
theorem pw_eq {ev : Int} {f : List Int} (h : f.Pairwise fun a b => a + ev ≤ b) {t x y : Int} (hx : x ∈ f) (hy : y ∈ f) (x1 : x ≤ t) (x2 : t < x + ev) (y1 : y ≤ t) (y2 : t < y + ev) : x = y := by
  induction h with
  | nil => simp at hx
  | cons a b ih =>
    rcases List.mem_cons.mp hx with rfl | hx2
    · rcases List.mem_cons.mp hy with rfl | hy2
      · rfl
      · have := a y hy2; omega
    · rcases List.mem_cons.mp hy with rfl | hy2
      · have := a x hx2; omega
      · exact ih hx2 hy2
theorem pw_one {ev t : Int} {f : List Int} (e0 : 0 < ev) (h : f.Pairwise fun a b => a + ev ≤ b) (c : ∃ x ∈ f, x ≤ t ∧ t < x + ev) : (f.filter fun x => decide (x ≤ t) && decide (t - x < ev)).length = 1 := by
  induction h with
  | nil => obtain ⟨x, m, _⟩ := c; simp at m
  | cons a b ih =>
    rename_i z r
    by_cases hz : z ≤ t ∧ t - z < ev
    · rw [List.filter_cons_of_pos (by simp [hz.1, hz.2])]
      have : (r.filter fun x => decide (x ≤ t) && decide (t - x < ev)) = [] := by
        rw [List.filter_eq_nil_iff]
        intro y m w
        simp at w
        have := a y m
        omega
      rw [this]
      rfl
    · rw [List.filter_cons_of_neg (by simp; intro w; omega)]
      refine ih ?_
      obtain ⟨x, m, x1, x2⟩ := c
      rcases List.mem_cons.mp m with rfl | m
      · omega
      · exact ⟨x, m, x1, x2⟩
section
variable {P : Program} {w : World} {K : PySem.W.Frag} {mg : Str → Option Value} {base : Heap}
def sp__law_times : Sp := fun vs H Q _ => ∃ (p c : Addr) (ev : Int), vs = [.ref p, .int ev] ∧ StOk H p c ∧ ∀ (H' : Hp) (D : Addr) (ns : List Int), H D = none → H' D = some (.lst (ns.map V.int)) → ns.length ≤ 13 → StOk H' p c → Keep p H H' → Q (.ref D) H'
theorem ok__law_times (T : Top K mg) : FnOk P w K mg base CX0 2 T.a__law_times T.d__law_times ["state", "every"]  sp__law_times := by
  refine T.F__law_times.ok sc__law_times (fun vs H Q E h => ?_) (fun cdv A outer s H vs Q E hr h => ?_)
  · obtain ⟨_, _, _, rfl, _⟩ := h
    rfl
  · obtain ⟨p, c, ev, rfl, st, q⟩ := h
    refine ⟨_, (pss_cons (ps_set (i := 2) sc__law_times.nd rfl (by first | exact Or.inl rfl | exact Or.inr rfl) (pe_lst pa_nil))
  (pss_cons (ps_for PassesOwn.never rfl (pi_range1 (by rfl) T.m_range (pa_cons (pe_call (ok__law_draw T) (hr.mono (by decide)) (by rfl) T.g__law_draw T.F__law_draw.kp T.b__law_draw .nil pass0 (pa_cons (pv 0) (pa_cons pe_int pa_nil))) pa_nil)) (pg_name (i := 3) sc__law_times.nd rfl (by first | exact Or.inl rfl | exact Or.inr rfl))
  (pss_cons (ps_set (i := 4) sc__law_times.nd rfl (by first | exact Or.inl rfl | exact Or.inr rfl) (pe_call (ok__law_draw T) (hr.mono (by decide)) (by rfl) T.g__law_draw T.F__law_draw.kp T.b__law_draw .nil pass0 (pa_cons (pv 0) (pa_cons pe_int pa_nil))))
  (pss_one (ps_if (pw_or (pt_cmpR op_eq (pv 4) pe_int (nomark _)) (pw_or1 (pt_cmpR op_eq (pe_callB call_len_seq (by rfl) T.m_len PySem.boot_len (pa_cons (pv 2) pa_nil)) pe_int (nomark _)))).pt
  (pss_one (ps_expr (pe_bm PySem.F.plainAttrs_list PySem.F.slot_list_append PySem.F.type_list_append mt_append (pv 2) (pa_cons (pe_call (ok__law_draw T) (hr.mono (by decide)) (by rfl) T.g__law_draw T.F__law_draw.kp T.b__law_draw .nil pass0 (pa_cons (pv 0) (pa_cons pe_int pa_nil))) pa_nil))))
  (pss_one (ps_if (pt_cmpR op_eq (pv 4) pe_int (nomark _))
  (pss_one (ps_expr (pe_bm PySem.F.plainAttrs_list PySem.F.slot_list_append PySem.F.type_list_append mt_append (pv 2) (pa_cons (pe_ix ix_list (pv 2) (pe_call (ok__law_draw T) (hr.mono (by decide)) (by rfl) T.g__law_draw T.F__law_draw.kp T.b__law_draw .nil pass0 (pa_cons (pv 0) (pa_cons (pe_callB call_len_seq (by rfl) T.m_len PySem.boot_len (pa_cons (pv 2) pa_nil)) pa_nil))) (fun _ _ => rfl)) pa_nil))))
  (pss_one (ps_expr (pe_bm PySem.F.plainAttrs_list PySem.F.slot_list_append PySem.F.type_list_append mt_append (pv 2) (pa_cons (pe_op op_add (pe_op op_sub (pe_op op_add (pe_ix ix_list (pv 2) (pe_call (ok__law_draw T) (hr.mono (by decide)) (by rfl) T.g__law_draw T.F__law_draw.kp T.b__law_draw .nil pass0 (pa_cons (pv 0) (pa_cons (pe_callB call_len_seq (by rfl) T.m_len PySem.boot_len (pa_cons (pv 2) pa_nil)) pa_nil))) (fun _ _ => rfl)) (pv 1)) pe_int) (pe_call (ok__law_draw T) (hr.mono (by decide)) (by rfl) T.g__law_draw T.F__law_draw.kp T.b__law_draw .nil pass0 (pa_cons (pv 0) (pa_cons pe_int pa_nil)))) pa_nil))))))))))
  (pss_one (ps_ret (pv 2))))), ?_⟩
    rw [show ∀ a0 a1 : V, L2.start ["state", "every", "times", "k", "turn"] [a0, a1] = [some a0, some a1, none, none, none] from fun _ _ => rfl]
    walk_at "my rn"
    intro D H1 nD s1 hD
    have st1 := st.same s1
    have pD := st.ne nD
    walk_at "my rn"
    refine ⟨p, c, _, rfl, st1, by decide, by decide, fun n H2 n0 n1 st2 k2 => ?_⟩
    walk_at "my rn"
    refine ⟨by omega, by omega, for_it walk_range (fun i σ H' => ∃ (ns : List Int) (y3 y4 : Option V), σ = [some (.ref p), some (.int ev), some (.ref D), y3, y4] ∧ H' D = some (.lst (ns.map V.int)) ∧ ns.length = i ∧ StOk H' p c ∧ Keep p H H') ⟨[], none, none, rfl, k2 _ _ pD.1 hD, rfl, st2, (Keep.same s1).trans k2⟩ (fun _ _ _ _ _ => trivial) ?_ ?_⟩
    · rintro i x σ H3 H3' hi ⟨ns, y3, y4, rfl, hD3, ln, st3, k3⟩ yy
      obtain ⟨rfl, e3⟩ := Rd.zr yy
      subst e3
      have fin : ∀ (v : Int) (H4 : Hp), H4 D = some (.lst (ns.map V.int)) → StOk H4 p c → Keep p H H4 → ∀ (y4 : Option V), ∃ (ns' : List Int) (y3 y4' : Option V), [some (.ref p), some (.int ev), some (.ref D), some (V.int i), y4] = [some (.ref p), some (.int ev), some (.ref D), y3, y4'] ∧ (upd H4 D (.lst (ns.map V.int ++ [.int v]))) D = some (.lst (ns'.map V.int)) ∧ ns'.length = i + 1 ∧ StOk (upd H4 D (.lst (ns.map V.int ++ [.int v]))) p c ∧ Keep p H (upd H4 D (.lst (ns.map V.int ++ [.int v]))) := fun v H4 h4 st4 k4 y4 => by
        refine ⟨ns ++ [v], _, _, rfl, by rw [upd_same, List.map_append]; rfl, by simp [ln], ?_, fun b o nb h => ?_⟩
        · obtain ⟨ms, kk, v, sd, a, b, d, r⟩ := st4
          exact ⟨ms, kk, v, sd, a, by rw [upd_ne pD.1.symm]; exact b, by rw [upd_ne pD.2.symm]; exact d, r⟩
        · rw [upd_ne (fun z => by rw [z, nD] at h; cases h)]
          exact k4 b o nb h
      walk_at "my rn"
      refine ⟨p, c, _, rfl, st3, by decide, by decide, fun tn H4 tn0 tn1 st4 k4 => ?_⟩
      have hD4 := k4 _ _ pD.1 hD3
      have k04 := k3.trans k4
      have idx : ∀ (ix : Int), 0 ≤ ix → ix < (ns.length : Int) → ∃ v, atI (ns.map V.int) ix = some (.int v) := fun ix a b => by
        obtain ⟨v, hv⟩ : ∃ v, ns[ix.toNat]? = some v := ⟨_, List.getElem?_eq_getElem (by omega)⟩
        exact ⟨v, Rd.at_int (j := ix.toNat) (by omega) hv⟩
      walk_at "my rn"
      refine Rd.ifD (fun c1 => ?_) (fun c1 => ?_)
      rotate_left
      walk_at "my rn"
      refine Rd.ifD (fun c2 => ?_) (fun c2 => ?_)
      rotate_left
      · have nl : 0 < ns.length := by
          rw [List.length_map] at c2
          rcases Nat.eq_zero_or_pos ns.length with z | z
          · exact absurd (by rw [z]; rfl) c2
          · exact z
        walk_at "my rn"
        refine Rd.ifD (fun c3 => ?_) (fun c3 => ?_)
        · walk_at "my rn"
          refine ⟨p, c, _, rfl, st4, by rw [List.length_map]; omega, by rw [List.length_map]; omega, fun ix H5 ix0 ix1 st5 k5 => ?_⟩
          rw [List.length_map] at ix1
          have hD5 := k5 _ _ pD.1 hD4
          obtain ⟨v, hv⟩ := idx ix ix0 ix1
          refine Rd.ixL hD5 hv ?_
          walk_at "my rn"
          refine Rd.app hD5 (Rd.szl (by rw [List.length_map]; omega)) ?_
          walk_at "my rn"
          exact fin v H5 hD5 st5 (k04.trans k5) _
        · walk_at "my rn"
          refine ⟨p, c, _, rfl, st4, by rw [List.length_map]; omega, by rw [List.length_map]; omega, fun ix H5 ix0 ix1 st5 k5 => ?_⟩
          rw [List.length_map] at ix1
          have hD5 := k5 _ _ pD.1 hD4
          obtain ⟨v, hv⟩ := idx ix ix0 ix1
          refine Rd.ixL hD5 hv ?_
          walk_at "my rn"
          refine ⟨p, c, _, rfl, st5, by decide, by decide, fun d H6 d0 d1 st6 k6 => ?_⟩
          have hD6 := k6 _ _ pD.1 hD5
          walk_at "my rn"
          refine Rd.app hD6 (Rd.szl (by rw [List.length_map]; omega)) ?_
          walk_at "my rn"
          exact fin _ H6 hD6 st6 ((k04.trans k5).trans k6) _
      all_goals
        walk_at "my rn"
        refine ⟨p, c, _, rfl, st4, by decide, by decide, fun d H6 d0 d1 st6 k6 => ?_⟩
        have hD6 := k6 _ _ pD.1 hD4
        walk_at "my rn"
        refine Rd.app hD6 (Rd.szl (by rw [List.length_map]; omega)) ?_
        walk_at "my rn"
        exact fin _ H6 hD6 st6 (k04.trans k6) _
    · rintro σ H3 ⟨ns, y3, y4, rfl, hD3, ln, st3, k3⟩
      walk_at "my rn"
      exact q _ D ns nD hD3 (by omega) st3 k3
def sp__law_accepts (K : PySem.W.Frag) : Sp := fun vs H Q _ => ∃ (A F : Addr) (ns f : List Int) (ev : Int), vs = [.ref A, .ref F, .int ev] ∧ H A = some (.lst (ns.map V.int)) ∧ H F = some (.lst (f.map V.int)) ∧ ns.length ≤ 100 ∧ f.length ≤ 100 ∧ 0 < ev ∧ Acc ev ns f ∧ ∀ H', Same H H' → Q (.bl true) H'
theorem ok__law_accepts (T : Top K mg) : FnOk P w K mg base CX0 1 T.a__law_accepts T.d__law_accepts ["times", "found", "every"]  (sp__law_accepts K) := by
  refine T.F__law_accepts.ok sc__law_accepts (fun vs H Q E h => ?_) (fun cdv A outer s H vs Q E hr h => ?_)
  · obtain ⟨_, _, _, _, _, rfl, _⟩ := h
    rfl
  · obtain ⟨A', F, ns, f, ev, rfl, hA, hF, la, lf, e0, ac, q⟩ := h
    refine ⟨_, (pss_cons (ps_if (pt_not (pt_val (pe_callB call_isi (by rfl) T.m_isinstance (by decide +kernel) (pa_cons (pv 1) (pa_cons (pe_ty (T := "list") (by rfl) T.m_list (by decide +kernel)) pa_nil)))))
  (pss_one (ps_ret pe_bl))
  pss_nil)
  (pss_cons (ps_for PassesOwn.never rfl (pi_range1 (by rfl) T.m_range (pa_cons (pe_callB call_len_seq (by rfl) T.m_len PySem.boot_len (pa_cons (pv 1) pa_nil)) pa_nil)) (pg_name (i := 3) sc__law_accepts.nd rfl (by first | exact Or.inl rfl | exact Or.inr rfl))
  (pss_one (ps_if (pw_or (pt_cmpR op_notIn_seq (pe_ix ix_list (pv 1) (pv 3) (fun _ _ => rfl)) (pv 0) (by with_unfolding_all rfl)) (pw_or1 (pw_and (pt_cmpR op_gt (pv 3) pe_int (nomark _)) (pw_and1 (pt_cmpR op_lt (pe_op op_sub (pe_ix ix_list (pv 1) (pv 3) (fun _ _ => rfl)) (pe_ix ix_list (pv 1) (pe_op op_sub (pv 3) pe_int) (fun _ _ => rfl))) (pv 2) (nomark _)))).pt)).pt
  (pss_one (ps_ret pe_bl))
  pss_nil)))
  (pss_cons (ps_for PassesOwn.never rfl (pi_list (pv 0)) (pg_name (i := 4) sc__law_accepts.nd rfl (by first | exact Or.inl rfl | exact Or.inr rfl))
  (pss_one (ps_if (pt_cmpR op_ne (pe_callB call_len_seq (by rfl) T.m_len PySem.boot_len (pa_cons (pe_lc (own := [("other", 5)]) (g := gName 5) rfl sc__law_accepts.nd (pi_list (pv 1)) (blkOk_by (N := ["times", "found", "every", "k", "time", "other"]) (sc := defScope s__law_accepts) (by decide +kernel)) (fun _ _ _ _ _ => pg_name (i := 5) sc__law_accepts.nd rfl (Or.inl rfl)) (fun _ _ _ _ _ => pts_one (pw_and (pt_cmpR op_le (pv 5) (pv 4) (nomark _)) (pw_and1 (pt_cmpR op_lt (pe_op op_sub (pv 4) (pv 5)) (pv 2) (nomark _)))).pt) (fun _ _ _ _ _ => (pv 5))) pa_nil)) pe_int (nomark _))
  (pss_one (ps_ret pe_bl))
  pss_nil)))
  (pss_one (ps_ret pe_bl))))), ?_⟩
    rw [show ∀ a0 a1 a2 : V, L2.start ["times", "found", "every", "k", "time", "other"] [a0, a1, a2] = [some a0, some a1, some a2, none, none, none] from fun _ _ _ => rfl]
    walk_at "my rn"
    rw [List.length_map]
    refine ⟨by omega, by omega, for_it walk_range (fun i σ H' => H' = H ∧ ∃ y3 y4 y5, σ = [some (.ref A'), some (.ref F), some (.int ev), y3, y4, y5]) ⟨rfl, none, none, none, rfl⟩ (fun _ _ _ _ _ => trivial) ?_ ?_⟩
    · rintro i x σ H1 H1' hi ⟨e1, y3, y4, y5, rfl⟩ yy
      obtain ⟨rfl, e3⟩ := Rd.zr yy
      rw [e3, e1]
      have hi2 : i < f.length := by simpa using hi
      obtain ⟨x, hx⟩ : ∃ x, f[i]? = some x := ⟨_, List.getElem?_eq_getElem hi2⟩
      walk_at "my rn"
      refine Rd.ixL hF (Rd.at_int (j := i) rfl hx) ?_
      walk_at "my rn"
      refine Rd.ninI hA ?_
      rw [decide_eq_true (ac.sub x (List.mem_of_getElem? hx))]
      walk_at "my rn"
      refine Rd.ifD (fun c1 => ?_) (fun c1 => ?_)
      · obtain ⟨z, hz⟩ : ∃ z, f[i - 1]? = some z := ⟨_, List.getElem?_eq_getElem (by omega)⟩
        walk_at "my rn"
        refine Rd.ixL hF (Rd.at_int (j := i) rfl hx) ?_
        walk_at "my rn"
        refine Rd.ixL hF (Rd.at_int (j := i - 1) (by omega) hz) ?_
        walk_at "my rn"
        refine Rd.ifD (fun c2 => ?_) (fun c2 => ?_)
        · exfalso
          obtain ⟨l1, e1⟩ := List.getElem?_eq_some_iff.mp hx
          obtain ⟨l2, e2⟩ := List.getElem?_eq_some_iff.mp hz
          have := List.pairwise_iff_getElem.mp ac.gap (i - 1) i l2 l1 (by omega)
          rw [e1, e2] at this
          omega
        · walk_at "my rn"
          exact ⟨_, _, _, rfl⟩
      · walk_at "my rn"
        exact ⟨_, _, _, rfl⟩
    · rintro σ H1 ⟨e1, y3, y4, y5, rfl⟩
      rw [e1]
      walk_at "my rn"
      refine for_it (walk_list (xs := ns.map V.int)) (fun i σ H' => Same H H' ∧ ∃ y3 y4 y5, σ = [some (.ref A'), some (.ref F), some (.int ev), y3, y4, y5]) ⟨Same.refl _, _, _, _, rfl⟩ (fun i σ H' _ h => h.1.seq (SqL.of hA)) ?_ ?_
      · rintro i x σ H2 H2' hi ⟨s2, y3, y4, y5, rfl⟩ ⟨e2, hx⟩
        rw [e2]
        rw [List.length_map] at hi
        rw [List.getElem?_map] at hx
        obtain ⟨tm, htm⟩ : ∃ tm, ns[i]? = some tm := ⟨_, List.getElem?_eq_getElem hi⟩
        rw [htm] at hx
        cases hx
        have hF2 := s2 _ _ hF
        walk_at "my rn"
        intro D nD
        refine Rd.lc_fl (fun x => decide (x ≤ tm) && decide (tm - x < ev)) (SqL.of hF2) nD (by omega) (fun j H3 x Kt Kn hx b kt kn => ?_) (fun H3 s3 hD => ?_)
        · simp only [List.map_cons, List.map_nil, L2.wipe, List.set_cons_succ, List.set_cons_zero]
          walk_at "my rn"
          refine ⟨rfl, ?_⟩
          walk_at "my rn"
          refine Rd.ifD (fun c1 => ?_) (fun c1 => ?_)
          · walk_at "my rn"
            refine Rd.ifD (fun c2 => ?_) (fun c2 => ?_)
            · walk_at "my rn"
              exact kt (by simp [c1, c2])
            · exact kn (by simp [c2])
          · walk_at "my rn"
            exact kn (by simp [c1])
        · have one := pw_one e0 ac.gap (ac.cov tm (List.mem_of_getElem? htm))
          walk_at "my rn"
          rw [List.length_map, one]
          rw [show decide (V.int ((1 : Nat) : Int) = V.int 1) = true from decide_eq_true rfl]
          walk_at "my rn"
          exact ⟨s2.trans s3, _, _, _, rfl⟩
      · rintro σ H2 ⟨s2, y3, y4, y5, rfl⟩
        walk_at "my rn"
        exact q _ s2
end

end Mine

set_option Elab.async false
set_option linter.all false
set_option maxRecDepth 100000
set_option maxHeartbeats 1000000

namespace Mine
open PySem PySem.Spec PyProof.Rows L2
local macro_rules | `(tactic| walk_at "my rn") => `(tactic| (repeat (first | with_reducible refine Rd.fld ?_ | with_reducible refine Rd.sfld ?_ | with_reducible refine Rd.meth ?_ | with_reducible refine Rd.make ?_ | with_reducible refine Rd.izip ?_ | with_reducible refine Rd.ckw ?_ | with_reducible refine Rd.dsetd ?_ | with_reducible refine Rd.ddel ?_ | with_reducible refine Rd.dnew ?_ | with_reducible refine Rd.din ?_ | with_reducible refine Rd.dnot ?_ | with_reducible refine Rd.dget ?_ | with_reducible refine Rd.dget2 ?_ | with_reducible refine Rd.dput ?_ | with_reducible refine Rd.cbDictOf ?_ | with_reducible refine Rd.iitems ?_ | with_reducible refine Rd.ikeys ?_ | with_reducible refine Rd.dc ?_ | with_reducible refine Rd.nwD ?_ | with_reducible refine Rd.tupN ?_ | with_reducible refine Rd.lstN ?_ | with_reducible refine Rd.cbListOf ?_ | with_reducible refine Rd.cbListOfR ?_ | with_reducible refine Rd.catI ?_ | with_reducible refine Rd.slN ?_ | with_reducible refine Rd.cbSrtI ?_ | with_reducible refine Rd.seq ?_ | with_reducible refine Rd.next ?_ | with_reducible refine Rd.brk ?_ | with_reducible refine Rd.cont ?_ | with_reducible refine Rd.asg ?_ | with_reducible refine Rd.ret ?_ | with_reducible refine Rd.retN ?_ | with_reducible refine Rd.drop ?_ | with_reducible refine Rd.ifs ?_ | with_reducible refine Rd.ife ?_ | with_reducible refine Rd.test ?_ | with_reducible refine Rd.tb_ ?_ | with_reducible refine Rd.bl ?_ | with_reducible refine Rd.bl2 ?_ | with_reducible refine Rd.and_ ?_ | with_reducible refine Rd.or_ ?_ | with_reducible refine Rd.not_ ?_ | with_reducible refine Rd.andV ?_ | with_reducible refine Rd.orV ?_ | with_reducible refine Rd.notV ?_ | with_reducible refine Rd.op ?_ | with_reducible refine Rd.un ?_ | with_reducible refine Rd.I0 ?_ | with_reducible refine Rd.U ?_ | with_reducible refine Rd.ip ?_ | with_reducible refine Rd.c_ ?_ | with_reducible refine Rd.nil ?_ | with_reducible refine Rd.cons ?_ | with_reducible refine Rd.call ?_ | with_reducible refine Rd.cb ?_ | with_reducible refine Rd.bm ?_ | with_reducible refine Rd.bm0 ?_ | with_reducible refine Rd.nopart ?_ | with_reducible refine Rd.part ?_ | with_reducible refine Rd.int1 ?_ | with_reducible refine Rd.ints1 ?_ | with_reducible refine Rd.ints2 ?_ | with_reducible refine Rd.gcons ?_ | with_reducible refine Rd.gnil ?_ | with_reducible refine Rd.sub ?_ | with_reducible refine Rd.isN ?_ | with_reducible refine Rd.chain ?_ | with_reducible refine Rd.rf ?_ | with_reducible refine Rd.tyS ?_ | with_reducible refine Rd.intI ?_ | with_reducible refine Rd.lc ?_ | with_reducible refine Rd.for_ ?_ | with_reducible refine Rd.ilist ?_ | with_reducible refine Rd.itup ?_ | with_reducible refine Rd.irng1 ?_ | with_reducible refine Rd.irng2 ?_ | with_reducible refine Rd.ienum ?_ | with_reducible refine Rd.istr ?_ | with_reducible refine Rd.refA ?_ | with_reducible refine Rd.strA ?_ | with_reducible refine Rd.yes ?_ | with_reducible refine Rd.ifT ?_ | with_reducible refine Rd.ifF ?_ | with_reducible refine Rd.ifnT ?_ | with_reducible refine Rd.ifnF ?_ | with_reducible refine Rd.isi_ii ?_ | with_reducible refine Rd.isi_ib ?_ | with_reducible refine Rd.isi_is ?_ | with_reducible refine Rd.isi_il ?_ | with_reducible refine Rd.isi_it ?_ | with_reducible refine Rd.isi_id ?_ | with_reducible refine Rd.isi_bi ?_ | with_reducible refine Rd.isi_bb ?_ | with_reducible refine Rd.isi_bs ?_ | with_reducible refine Rd.isi_bl ?_ | with_reducible refine Rd.isi_bt ?_ | with_reducible refine Rd.isi_bd ?_ | with_reducible refine Rd.isi_si ?_ | with_reducible refine Rd.isi_sb ?_ | with_reducible refine Rd.isi_ss ?_ | with_reducible refine Rd.isi_sl ?_ | with_reducible refine Rd.isi_st ?_ | with_reducible refine Rd.isi_sd ?_ | with_reducible refine Rd.isi_ni ?_ | with_reducible refine Rd.isi_nb ?_ | with_reducible refine Rd.isi_ns ?_ | with_reducible refine Rd.isi_nl ?_ | with_reducible refine Rd.isi_nt ?_ | with_reducible refine Rd.isi_nd ?_ | with_reducible refine Rd.sl ?_ | with_reducible refine Rd.v0 ?_ | with_reducible refine Rd.v1 ?_ | with_reducible refine Rd.v2 ?_ | with_reducible refine Rd.v3 ?_ | with_reducible refine Rd.v4 ?_ | with_reducible refine Rd.v5 ?_ | with_reducible refine Rd.v6 ?_ | with_reducible refine Rd.v7 ?_ | with_reducible refine Rd.v8 ?_ | with_reducible refine Rd.v9 ?_ | with_reducible refine Rd.v10 ?_ | with_reducible refine Rd.v11 ?_ | with_reducible refine Rd.v12 ?_ | with_reducible refine Rd.v13 ?_ | with_reducible refine Rd.v14 ?_ | with_reducible refine Rd.v15 ?_ | with_reducible refine Rd.n0 ?_ | with_reducible refine Rd.n1 ?_ | with_reducible refine Rd.n2 ?_ | with_reducible refine Rd.n3 ?_ | with_reducible refine Rd.n4 ?_ | with_reducible refine Rd.n5 ?_ | with_reducible refine Rd.n6 ?_ | with_reducible refine Rd.n7 ?_ | with_reducible refine Rd.n8 ?_ | with_reducible refine Rd.n9 ?_ | with_reducible refine Rd.n10 ?_ | with_reducible refine Rd.n11 ?_ | with_reducible refine Rd.n12 ?_ | with_reducible refine Rd.n13 ?_ | with_reducible refine Rd.n14 ?_ | with_reducible refine Rd.n15 ?_ | with_reducible refine Rd.g0 ?_ | with_reducible refine Rd.g1 ?_ | with_reducible refine Rd.g2 ?_ | with_reducible refine Rd.g3 ?_ | with_reducible refine Rd.g4 ?_ | with_reducible refine Rd.g5 ?_ | with_reducible refine Rd.g6 ?_ | with_reducible refine Rd.g7 ?_ | with_reducible refine Rd.g8 ?_ | with_reducible refine Rd.g9 ?_ | with_reducible refine Rd.g10 ?_ | with_reducible refine Rd.g11 ?_ | with_reducible refine Rd.g12 ?_ | with_reducible refine Rd.g13 ?_ | with_reducible refine Rd.g14 ?_ | with_reducible refine Rd.g15 ?_ | ((with_reducible apply Rd.fldI); (first | assumption | exact upd_same); assumption; assumption; (first | assumption | with_unfolding_all rfl)) | ((with_reducible apply Rd.methI); (first | assumption | exact upd_same); (first | assumption | with_unfolding_all rfl)) | ((with_reducible apply Rd.sfldI); (first | assumption | exact upd_same); assumption; assumption; exact Nat.le_of_ble_eq_true rfl) | ((with_reducible apply Rd.maxL); assumption) | ((with_reducible apply Rd.anyL); assumption) | ((with_reducible apply Rd.sumL); assumption) | ((with_reducible refine Rd.izI (by assumption) (by assumption) ?_)) | ((with_reducible refine Rd.eq ?_ ?_); exact rfl) | ((with_reducible refine Rd.ne ?_ ?_); exact rfl) | ((with_reducible refine Rd.szA ?_ ?_); exact Nat.le_of_ble_eq_true rfl) | ((with_reducible refine Rd.I ?_ ?_); first | assumption | decide | exact Or.inr (by decide +kernel) | exact Or.inl (by decide +kernel) | exact ⟨by decide, by decide⟩ | exact ⟨by decide, by decide, by decide⟩ | omega) | ((with_reducible apply Rd.tyL); first | assumption | exact upd_same) | ((with_reducible apply Rd.tyLq); assumption) | ((with_reducible apply Rd.ixL); (first | assumption | exact upd_same); exact rfl) | ((with_reducible apply Rd.ixT); (first | assumption | exact upd_same); exact rfl) | ((with_reducible apply Rd.ixLq); assumption; exact rfl) | ((with_reducible apply Rd.ixTq); assumption; exact rfl) | ((with_reducible apply Rd.gtup); (first | assumption | exact upd_same); exact rfl) | ((with_reducible apply Rd.gtupq); assumption; exact rfl) | ((with_reducible apply Rd.sqAq); assumption) | ((with_reducible apply Rd.stAq); assumption) | ((with_reducible apply Rd.enAq); assumption) | ((with_reducible apply Rd.lenLq); assumption) | ((with_reducible apply Rd.lenTq); assumption) | ((with_reducible apply Rd.sqA); first | assumption | exact upd_same) | ((with_reducible apply Rd.stA); first | assumption | exact upd_same) | ((with_reducible apply Rd.enA); first | assumption | exact upd_same) | ((with_reducible apply Rd.lenL); first | assumption | exact upd_same) | ((with_reducible apply Rd.lenT); first | assumption | exact upd_same) | ((with_reducible refine Rd.nwT ?_ ?_); exact Nat.le_of_ble_eq_true rfl) | ((with_reducible refine Rd.nwL ?_ ?_); exact Nat.le_of_ble_eq_true rfl) | ((with_reducible apply Rd.isd); assumption) | ((with_reducible apply Rd.dictOf); assumption) | ((with_reducible refine Rd.isi_dd (by assumption) ?_)) | ((with_reducible apply Rd.itA); first | assumption | exact upd_same) | ((with_reducible apply Rd.ikA); first | assumption | exact upd_same) | ((with_reducible apply Rd.listOf); assumption) | ((with_reducible apply Rd.listOfq); assumption) | ((with_reducible apply Rd.slo); assumption) | ((with_reducible apply Rd.slq); assumption) | ((with_reducible apply Rd.srtI); assumption) | ((with_reducible apply Rd.srtIo); assumption) | ((with_reducible refine Rd.isi_li (by assumption) ?_)) | ((with_reducible refine Rd.isi_lb (by assumption) ?_)) | ((with_reducible refine Rd.isi_ls (by assumption) ?_)) | ((with_reducible refine Rd.isi_ll (by assumption) ?_)) | ((with_reducible refine Rd.isi_lt (by assumption) ?_)) | ((with_reducible refine Rd.isi_ld (by assumption) ?_)) | ((with_reducible refine Rd.isi_ti (by assumption) ?_)) | ((with_reducible refine Rd.isi_tb (by assumption) ?_)) | ((with_reducible refine Rd.isi_ts (by assumption) ?_)) | ((with_reducible refine Rd.isi_tl (by assumption) ?_)) | ((with_reducible refine Rd.isi_tt (by assumption) ?_)) | ((with_reducible refine Rd.isi_td (by assumption) ?_)))))
/-! ### the timeline in order -/
theorem first_p {α : Type} [DecidableEq α] (l : List α) (m : α) (h : m ∈ l) : ∃ j : Nat, l[j]? = some m ∧ ∀ i, i < j → l[i]? ≠ some m := by
  induction l with
  | nil => simp at h
  | cons a r ih =>
    by_cases e : a = m
    · exact ⟨0, by simp [e], fun i hi => absurd hi (Nat.not_lt_zero _)⟩
    · obtain ⟨j, h1, h2⟩ := ih ((List.mem_cons.mp h).resolve_left fun z => e z.symm)
      refine ⟨j + 1, by simpa using h1, fun i hi => ?_⟩
      cases i with
      | zero => simp [e]
      | succ i => simpa using h2 i (by omega)
theorem PsAt.erase {H : Hp} {vs : List V} {ps : List (Int × Int)} (h : PsAt H vs ps) (j : Nat) : PsAt H (vs.eraseIdx j) (ps.eraseIdx j) := by
  refine ⟨by rw [List.length_eraseIdx, List.length_eraseIdx, h.1], fun i p e => ?_⟩
  rw [List.getElem?_eraseIdx] at e ⊢
  split at e
  · rename_i c
    rw [if_pos c]
    exact h.2 i p e
  · rename_i c
    rw [if_neg c]
    exact h.2 (i + 1) p e
theorem leP_anti {a b : Int × Int} (h1 : leP a b) (h2 : leP b a) : a = b := by
  unfold leP ltPr at *
  exact Prod.ext (by omega) (by omega)
theorem min_head {qs ps : List (Int × Int)} {k : Nat} {m pk : Int × Int} (pm : qs.Perm (ps.drop k)) (srt : ps.Pairwise leP) (hp : ps[k]? = some pk) (hm : m ∈ qs) (hmin : ∀ y ∈ qs, ¬ ltPr y m) : m = pk := by
  have e : ps.drop k = pk :: ps.drop (k + 1) := by
    obtain ⟨l, e⟩ := List.getElem?_eq_some_iff.mp hp
    rw [← e]
    exact List.drop_eq_getElem_cons l
  have s2 : (ps.drop k).Pairwise leP := List.Pairwise.sublist (List.drop_sublist k ps) srt
  rw [e] at s2 pm
  have h1 : leP m pk := hmin pk (pm.mem_iff.mpr List.mem_cons_self)
  have h2 : leP pk m := by
    rcases List.mem_cons.mp (pm.mem_iff.mp hm) with h | h
    · rw [h]; unfold leP ltPr; omega
    · exact (List.pairwise_cons.mp s2).1 m h
  exact leP_anti h1 h2
theorem er_perm {α : Type} {l : List α} {j : Nat} {a : α} (h : l[j]? = some a) : (a :: l.eraseIdx j).Perm l := by
  induction l generalizing j with
  | nil => simp at h
  | cons b r ih =>
    cases j with
    | zero =>
      simp at h
      rw [h]
      exact List.Perm.refl _
    | succ j =>
      have h2 : r[j]? = some a := by simpa using h
      rw [List.eraseIdx_cons_succ]
      exact (List.Perm.swap _ _ _).trans ((ih h2).cons b)
theorem drop_step {qs ps : List (Int × Int)} {k j : Nat} {pk : Int × Int} (pm : qs.Perm (ps.drop k)) (hp : ps[k]? = some pk) (hj : qs[j]? = some pk) : (qs.eraseIdx j).Perm (ps.drop (k + 1)) := by
  have e : ps.drop k = pk :: ps.drop (k + 1) := by
    obtain ⟨l, e⟩ := List.getElem?_eq_some_iff.mp hp
    rw [← e]
    exact List.drop_eq_getElem_cons l
  have p2 := er_perm hj
  rw [e] at pm
  exact (p2.trans pm).cons_inv
section
variable {P : Program} {w : World} {K : PySem.W.Frag} {mg : Str → Option Value} {base : Heap}
def sp__law_ordered (C : Addr) (K : PySem.W.Frag) : Sp := fun vs H Q _ => ∃ (o dx Cm R : Addr) (zs : List V) (ps : List (Int × Int)) (rs : List (Int × List Int)), vs = [.ref o, .ref R] ∧ TlAt C H o dx Cm zs ps 0 ∧ RwAt K H R rs ∧ rs.length ≤ 4 ∧ (∀ r ∈ rs, r.2.length ≤ 13) ∧ ps.Perm (flatP rs) ∧ ps.Pairwise leP ∧ ∀ H', Q (.bl true) H'
theorem ok__law_ordered (T : Top K mg) : FnOk P w K mg base CX0 2 T.a__law_ordered T.d__law_ordered ["timeline", "rows"]  (sp__law_ordered T.C_Timeline K) := by
  refine T.F__law_ordered.ok sc__law_ordered (fun vs H Q E h => ?_) (fun cdv A outer s H vs Q E hr h => ?_)
  · obtain ⟨_, _, _, _, _, _, _, rfl, _⟩ := h
    rfl
  · obtain ⟨o, dx, Cm, R, zs, ps, rs, rfl, h, hR, lr, lt, pm, srt, q⟩ := h
    obtain ⟨rv, hR1, hR2, hR3⟩ := hR
    have fl : ∀ (i : Nat) (r : Int × List Int), rs[i]? = some r → flatP (rs.take (i + 1)) = flatP (rs.take i) ++ r.2.map fun t => (t, r.1) := fun i r e => by
      unfold flatP
      rw [List.take_add_one, e, List.flatMap_append]
      simp
    have fln : ∀ i, i ≤ rs.length → (flatP (rs.take i)).length ≤ 13 * i := fun i => by
      induction i with
      | zero => intro _; simp [flatP]
      | succ i ih =>
        intro hi
        obtain ⟨r, hr⟩ : ∃ r, rs[i]? = some r := ⟨_, List.getElem?_eq_getElem (by omega)⟩
        have := ih (by omega)
        have := lt r (List.mem_of_getElem? hr)
        rw [fl i r hr]
        simp
        omega
    refine ⟨_, (pss_cons (ps_set (i := 2) sc__law_ordered.nd rfl (by first | exact Or.inl rfl | exact Or.inr rfl) (pe_lst pa_nil))
  (pss_cons (ps_for PassesOwn.never rfl (pi_list (pv 1)) (pg_tup rfl (pgs_cons (pg_name (i := 3) sc__law_ordered.nd rfl (by first | exact Or.inl rfl | exact Or.inr rfl)) (pgs_cons (pg_name (i := 4) sc__law_ordered.nd rfl (by first | exact Or.inl rfl | exact Or.inr rfl)) pgs_nil)))
  (pss_one (ps_set (i := 2) sc__law_ordered.nd rfl (by first | exact Or.inl rfl | exact Or.inr rfl) (pe_op op_cat (pv 2) (pe_lc (own := [("time", 5)]) (g := gName 5) (tt := tYes) rfl sc__law_ordered.nd (pi_list (pv 4)) (blkOk_by (N := ["timeline", "rows", "left", "number", "times", "time", "k", "due", "told"]) (sc := defScope s__law_ordered) (by decide +kernel)) (fun _ _ _ _ _ => pg_name (i := 5) sc__law_ordered.nd rfl (Or.inl rfl)) (fun _ _ _ _ _ => pts_nil) (fun _ _ _ _ _ => (pe_tup (pa_cons (pv 5) (pa_cons (pv 3) pa_nil)))))))))
  (pss_cons (ps_for PassesOwn.never rfl (pi_range1 (by rfl) T.m_range (pa_cons (pe_callB call_len_seq (by rfl) T.m_len PySem.boot_len (pa_cons (pv 2) pa_nil)) pa_nil)) (pg_name (i := 6) sc__law_ordered.nd rfl (by first | exact Or.inl rfl | exact Or.inr rfl))
  (pss_cons (ps_set (i := 7) sc__law_ordered.nd rfl (by first | exact Or.inl rfl | exact Or.inr rfl) (pe_callB (cr_minP rfl (Rd.room65 hr)) (by rfl) T.m_min (by decide +kernel) (pa_cons (pv 2) pa_nil)))
  (pss_cons (ps_if (pt_cmpR op_ne (pe_meth0 (pv 0) T.cl_Timeline T.m_Timeline_next_time (ok_Timeline_next_time T) (hr.mono (by decide)) T.b_Timeline_next_time .nil pass0) (pe_ix ix_tup (pv 7) pe_int (fun _ _ => rfl)) (nomark _))
  (pss_one (ps_ret pe_bl))
  pss_nil)
  (pss_cons (ps_set (i := 8) sc__law_ordered.nd rfl (by first | exact Or.inl rfl | exact Or.inr rfl) (pe_meth0 (pv 0) T.cl_Timeline T.m_Timeline_take (ok_Timeline_take T) (hr.mono (by decide)) T.b_Timeline_take .nil pass0))
  (pss_cons (ps_if (pw_or (pt_not (pt_val (pe_callB call_isi (by rfl) T.m_isinstance (by decide +kernel) (pa_cons (pv 8) (pa_cons (pe_ty (T := "tuple") (by rfl) T.m_tuple (by decide +kernel)) pa_nil))))) (pw_or1 (pt_cmpR (op_neD hr.units) (pv 8) (pv 7) (nomark _)))).pt
  (pss_one (ps_ret pe_bl))
  pss_nil)
  (pss_one (ps_expr (pe_bm PySem.F.plainAttrs_list PySem.F.slot_list_remove PySem.F.type_list_remove (mt_removeP (Rd.room65 hr)) (pv 2) (pa_cons (pv 7) pa_nil)))))))))
  (pss_one (ps_ret (pe_and (pe_cmpR op_isN (pe_meth0 (pv 0) T.cl_Timeline T.m_Timeline_next_time (ok_Timeline_next_time T) (hr.mono (by decide)) T.b_Timeline_next_time .nil pass0) pe_non (nomark _)) (pe_one (pe_cmpR op_isN (pe_meth0 (pv 0) T.cl_Timeline T.m_Timeline_take (ok_Timeline_take T) (hr.mono (by decide)) T.b_Timeline_take .nil pass0) pe_non (nomark _))))))))), ?_⟩
    rw [show ∀ a0 a1 : V, L2.start ["timeline", "rows", "left", "number", "times", "time", "k", "due", "told"] [a0, a1] = [some a0, some a1, none, none, none, none, none, none, none] from fun _ _ => rfl]
    walk_at "my rn"
    intro L0 H1 nL0 s1 hL0
    have hR11 := s1.seq hR1
    walk_at "my rn"
    refine for_it (walk_list (xs := rv)) (fun i σ H' => ∃ (L : Addr) (zl : List V) (y3 y4 y5 : Option V), σ = [some (.ref o), some (.ref R), some (.ref L), y3, y4, y5, none, none, none] ∧ H' L = some (.lst zl) ∧ PsAt H' zl (flatP (rs.take i)) ∧ Same H H' ∧ H L = none) ⟨L0, [], none, none, none, rfl, hL0, ⟨rfl, fun i p e => by simp [flatP] at e⟩, s1, nL0⟩ (fun i σ H' _ ⟨_, _, _, _, _, _, _, _, s, _⟩ => s.seq hR1) ?_ ?_
    · rintro i x σ H2 H2' hi ⟨L, zl, y3, y4, y5, rfl, hL, pa, s2, nL⟩ ⟨e2, hx⟩
      rw [e2]
      obtain ⟨r, hr⟩ : ∃ r, rs[i]? = some r := ⟨_, List.getElem?_eq_getElem (by omega)⟩
      obtain ⟨t, l, ht, hT, hl⟩ := hR3 i r hr
      rw [ht] at hx
      cases hx
      have hT2 := s2 _ _ hT
      have hl2 := s2 _ _ hl
      have lr2 := lt r (List.mem_of_getElem? hr)
      have lf := fln i (by omega)
      refine Rd.gtup hT2 rfl ?_
      walk_at "my rn"
      intro D nD
      refine Rd.lc_rel (walk_list (xs := r.2.map V.int)) (fun j v H => ∃ t tm, v = .ref t ∧ t ≠ D ∧ r.2[j]? = some tm ∧ H t = some (.tup [.int tm, .int r.1])) nD (by rw [List.length_map]; omega) (fun j v _ _ ⟨t, e, h1, n, h2, h3⟩ b => ⟨t, e, h1, n, h2, b _ _ n h3⟩) (fun H b => (b.to nD).seq (SqL.of hl2)) (fun j x H3 H4 Kt hj b hDl y kt => ?_) (fun H3 ms lm hm s3 hD3 => ?_)
      · obtain ⟨rfl, hx⟩ := y
        rw [List.getElem?_map] at hx
        obtain ⟨e, hei, rfl⟩ : ∃ e, r.2[j]? = some e ∧ V.int e = x := by
          cases z : r.2[j]? with
          | none => rw [z] at hx; cases hx
          | some e => rw [z] at hx; exact ⟨e, rfl, Option.some.inj hx⟩
        simp only [List.map_cons, List.map_nil, L2.wipe, List.set_cons_succ, List.set_cons_zero]
        walk_at "my rn"
        refine ⟨rfl, ?_⟩
        walk_at "my rn"
        intro t H5 nt s5 ht
        obtain ⟨xsD, hxD⟩ := hDl
        exact kt _ _ ⟨t, e, rfl, fun z => (by rw [z, hxD] at nt; cases nt), hei, ht⟩ s5
      rw [List.length_map] at lm
      have pa3 : PsAt H3 ms (r.2.map fun t => (t, r.1)) := by
        refine ⟨by simp [lm], fun j p e => ?_⟩
        rw [List.getElem?_map] at e
        cases z : r.2[j]? with
        | none => rw [z] at e; cases e
        | some tm =>
          rw [z] at e
          cases e
          have hlt := (List.getElem?_eq_some_iff.mp z).1
          obtain ⟨v, hv⟩ : ∃ v, ms[j]? = some v := ⟨_, List.getElem?_eq_getElem (by omega)⟩
          obtain ⟨t, tm2, rfl, _, h2, h3⟩ := hm j v hv
          rw [z] at h2
          cases h2
          exact ⟨t, hv, h3⟩
      walk_at "my rn"
      refine Rd.cat (s3 _ _ hL) hD3 (by rw [pa.1, lm]; omega) fun L2 H4 nL2 s4 hL2 => ?_
      have s24 := s3.trans s4
      walk_at "my rn"
      refine ⟨L2, zl ++ ms, _, _, _, rfl, hL2, ?_, s2.trans s24, (s2.trans s3).free nL2⟩
      rw [fl i r hr]
      have pa4 := pa.same s24
      have pa34 := pa3.same s4
      refine ⟨by simp [pa.1, pa3.1], fun j p e => ?_⟩
      by_cases hj : j < (flatP (rs.take i)).length
      · rw [List.getElem?_append_left hj] at e
        rw [List.getElem?_append_left (by rw [pa.1]; exact hj)]
        exact pa4.2 j p e
      · rw [List.getElem?_append_right (by omega)] at e
        rw [List.getElem?_append_right (by rw [pa.1]; omega), pa.1]
        exact pa34.2 _ p e
    · rintro σ H2 ⟨L, zl, y3, y4, y5, rfl, hL, pa, s2, nL⟩
      rw [hR2, List.take_length] at pa
      have lf := fln rs.length (Nat.le_refl _)
      rw [List.take_length] at lf
      have LC : L ≠ Cm := fun z => by rw [z, h.hC] at nL; cases nL
      have Lo : L ≠ o := fun z => by rw [z, h.ob] at nL; cases nL
      have c1 := T.cl_Timeline
      have fn : ∀ k, (tlf Cm k).lookup ("next_time" : Str) = none := fun k => by with_unfolding_all rfl
      have ft : ∀ k, (tlf Cm k).lookup ("take" : Str) = none := fun k => by with_unfolding_all rfl
      have pl : ps.length = zl.length := by rw [pm.length_eq, pa.1]
      walk_at "my rn"
      rw [Int.toNat_natCast]
      refine ⟨by have := pa.1; omega, by have := pa.1; omega, for_it walk_range (fun k σ H' => ∃ (zl' : List V) (qs : List (Int × Int)) (y6 y7 y8 : Option V), σ = [some (.ref o), some (.ref R), some (.ref L), y3, y4, y5, y6, y7, y8] ∧ H' L = some (.lst zl') ∧ PsAt H' zl' qs ∧ qs.Perm (ps.drop k) ∧ TlAt T.C_Timeline H' o dx Cm zs ps k)
        ⟨zl, flatP rs, none, none, none, rfl, hL, pa, by rw [List.drop_zero]; exact pm.symm, h.keep s2⟩ (fun _ _ _ _ _ => trivial) ?_ ?_⟩
      · rintro k x σ H3 H3' hk ⟨zl', qs, y6, y7, y8, rfl, hL3, pa3, pq, tl⟩ yy
        obtain ⟨rfl, e3⟩ := Rd.zr yy
        rw [e3]
        obtain ⟨pk, hp⟩ : ∃ pk, ps[k]? = some pk := ⟨_, List.getElem?_eq_getElem (by omega)⟩
        have hob := tl.ob
        have fnk := fn (k : Int)
        have ftk := ft (k : Int)
        have lq : 0 < qs.length := by rw [pq.length_eq, List.length_drop]; omega
        obtain ⟨t2, ht2, hT2⟩ := tl.pa.2 k pk hp
        walk_at "my rn"
        refine ⟨L, zl', qs, rfl, SqL.of hL3, pa3.dp, lq, fun i x m hx hm hmin => ?_⟩
        have em := min_head pq srt hp (List.mem_of_getElem? hm) hmin
        subst em
        obtain ⟨t, ht, hT⟩ := pa3.2 i m hm
        rw [hx] at ht
        cases ht
        walk_at "my rn"
        refine ⟨o, dx, Cm, zs, ps, k, rfl, tl, ?_⟩
        rw [hp]
        walk_at "my rn"
        rw [decide_eq_true rfl]
        walk_at "my rn"
        refine ⟨o, dx, Cm, zs, ps, k, rfl, tl, fun e => (by rw [hp] at e; cases e), fun p' t' e1 e2 => ?_⟩
        rw [hp] at e1
        cases e1
        rw [ht2] at e2
        cases e2
        obtain ⟨H4, e4⟩ : ∃ H4, H4 = upd H3 o (.ins T.C_Timeline dx (tlf Cm ((k + 1 : Nat) : Int))) := ⟨_, rfl⟩
        rw [← e4]
        have k4 : ∀ b x, b ≠ o → H3 b = some x → H4 b = some x := fun b x n e => by rw [e4, upd_ne n]; exact e
        have no : ∀ b xs, H3 b = some (.tup xs) → b ≠ o := fun b xs e z => by rw [z, hob] at e; cases e
        have hT4 := k4 _ _ (no _ _ hT) hT
        have hT24 := k4 _ _ (no _ _ hT2) hT2
        have hL4 := k4 _ _ Lo hL3
        have pa4 : PsAt H4 zl' qs := ⟨pa3.1, fun i p e => let ⟨t, a, b⟩ := pa3.2 i p e; ⟨t, a, k4 _ _ (no _ _ b) b⟩⟩
        walk_at "my rn"
        refine Rd.neD (.tup (SqT.of hT24) (.cons (.int _) (.cons (.int _) .nil))) (.tup (SqT.of hT4) (.cons (.int _) (.cons (.int _) .nil))) (by rfl) (by rfl) ?_
        rw [show PyData.eqv (.tuple [.int m.1, .int m.2]) (.tuple [.int m.1, .int m.2]) = true from Rd.eqv_self _ (by rfl)]
        walk_at "my rn"
        obtain ⟨j, hj1, hj2⟩ := first_p qs m (List.mem_of_getElem? hm)
        refine ⟨L, zl', qs, _, m, j, rfl, rfl, hL4, pa4.dp, .tup (SqT.of hT4) (.cons (.int _) (.cons (.int _) .nil)), hj1, hj2, ?_⟩
        refine ⟨zl'.eraseIdx j, qs.eraseIdx j, _, _, _, rfl, upd_same, (pa4.erase j).updL hL4, drop_step pq hp hj1, ?_⟩
        have oL : o ≠ L := fun z => Lo z.symm
        have oC : Cm ≠ o := fun z => by have := tl.hC; rw [z, hob] at this; cases this
        exact ⟨by rw [upd_ne oL, e4]; exact upd_same, by rw [upd_ne (fun z => LC z.symm)]; exact k4 _ _ oC tl.hC, ⟨tl.pa.1, fun i p e => let ⟨t, a, b⟩ := tl.pa.2 i p e; ⟨t, a, by rw [upd_ne (fun z => by rw [z, hL3] at b; cases b)]; exact k4 _ _ (no _ _ b) b⟩⟩, by omega⟩
      · rintro σ H3 ⟨zl', qs, y6, y7, y8, rfl, hL3, pa3, pq, tl⟩
        have hob := tl.ob
        have fnk := fn (zl.length : Int)
        have ftk := ft (zl.length : Int)
        have hp : ps[zl.length]? = none := List.getElem?_eq_none (by omega)
        walk_at "my rn"
        refine ⟨o, dx, Cm, zs, ps, _, rfl, tl, ?_⟩
        rw [hp]
        walk_at "my rn"
        rw [decide_eq_true rfl]
        refine Rd.ifT ?_
        walk_at "my rn"
        refine ⟨o, dx, Cm, zs, ps, _, rfl, tl, fun _ => ?_, fun p' t' e1 _ => by rw [hp] at e1; cases e1⟩
        walk_at "my rn"
        rw [decide_eq_true rfl]
        exact q _
end

end Mine

set_option Elab.async false
set_option linter.all false
set_option maxRecDepth 100000
set_option maxHeartbeats 1000000

namespace Mine
open PySem PySem.Spec PyProof.Rows L2
local macro_rules | `(tactic| walk_at "my rn") => `(tactic| (repeat (first | with_reducible refine Rd.fld ?_ | with_reducible refine Rd.sfld ?_ | with_reducible refine Rd.meth ?_ | with_reducible refine Rd.make ?_ | with_reducible refine Rd.izip ?_ | with_reducible refine Rd.ckw ?_ | with_reducible refine Rd.dsetd ?_ | with_reducible refine Rd.ddel ?_ | with_reducible refine Rd.dnew ?_ | with_reducible refine Rd.din ?_ | with_reducible refine Rd.dnot ?_ | with_reducible refine Rd.dget ?_ | with_reducible refine Rd.dget2 ?_ | with_reducible refine Rd.dput ?_ | with_reducible refine Rd.cbDictOf ?_ | with_reducible refine Rd.iitems ?_ | with_reducible refine Rd.ikeys ?_ | with_reducible refine Rd.dc ?_ | with_reducible refine Rd.nwD ?_ | with_reducible refine Rd.tupN ?_ | with_reducible refine Rd.lstN ?_ | with_reducible refine Rd.cbListOf ?_ | with_reducible refine Rd.cbListOfR ?_ | with_reducible refine Rd.catI ?_ | with_reducible refine Rd.slN ?_ | with_reducible refine Rd.cbSrtI ?_ | with_reducible refine Rd.seq ?_ | with_reducible refine Rd.next ?_ | with_reducible refine Rd.brk ?_ | with_reducible refine Rd.cont ?_ | with_reducible refine Rd.asg ?_ | with_reducible refine Rd.ret ?_ | with_reducible refine Rd.retN ?_ | with_reducible refine Rd.drop ?_ | with_reducible refine Rd.ifs ?_ | with_reducible refine Rd.ife ?_ | with_reducible refine Rd.test ?_ | with_reducible refine Rd.tb_ ?_ | with_reducible refine Rd.bl ?_ | with_reducible refine Rd.bl2 ?_ | with_reducible refine Rd.and_ ?_ | with_reducible refine Rd.or_ ?_ | with_reducible refine Rd.not_ ?_ | with_reducible refine Rd.andV ?_ | with_reducible refine Rd.orV ?_ | with_reducible refine Rd.notV ?_ | with_reducible refine Rd.op ?_ | with_reducible refine Rd.un ?_ | with_reducible refine Rd.I0 ?_ | with_reducible refine Rd.U ?_ | with_reducible refine Rd.ip ?_ | with_reducible refine Rd.c_ ?_ | with_reducible refine Rd.nil ?_ | with_reducible refine Rd.cons ?_ | with_reducible refine Rd.call ?_ | with_reducible refine Rd.cb ?_ | with_reducible refine Rd.bm ?_ | with_reducible refine Rd.bm0 ?_ | with_reducible refine Rd.nopart ?_ | with_reducible refine Rd.part ?_ | with_reducible refine Rd.int1 ?_ | with_reducible refine Rd.ints1 ?_ | with_reducible refine Rd.ints2 ?_ | with_reducible refine Rd.gcons ?_ | with_reducible refine Rd.gnil ?_ | with_reducible refine Rd.sub ?_ | with_reducible refine Rd.isN ?_ | with_reducible refine Rd.chain ?_ | with_reducible refine Rd.rf ?_ | with_reducible refine Rd.tyS ?_ | with_reducible refine Rd.intI ?_ | with_reducible refine Rd.lc ?_ | with_reducible refine Rd.for_ ?_ | with_reducible refine Rd.ilist ?_ | with_reducible refine Rd.itup ?_ | with_reducible refine Rd.irng1 ?_ | with_reducible refine Rd.irng2 ?_ | with_reducible refine Rd.ienum ?_ | with_reducible refine Rd.istr ?_ | with_reducible refine Rd.refA ?_ | with_reducible refine Rd.strA ?_ | with_reducible refine Rd.yes ?_ | with_reducible refine Rd.ifT ?_ | with_reducible refine Rd.ifF ?_ | with_reducible refine Rd.ifnT ?_ | with_reducible refine Rd.ifnF ?_ | with_reducible refine Rd.isi_ii ?_ | with_reducible refine Rd.isi_ib ?_ | with_reducible refine Rd.isi_is ?_ | with_reducible refine Rd.isi_il ?_ | with_reducible refine Rd.isi_it ?_ | with_reducible refine Rd.isi_id ?_ | with_reducible refine Rd.isi_bi ?_ | with_reducible refine Rd.isi_bb ?_ | with_reducible refine Rd.isi_bs ?_ | with_reducible refine Rd.isi_bl ?_ | with_reducible refine Rd.isi_bt ?_ | with_reducible refine Rd.isi_bd ?_ | with_reducible refine Rd.isi_si ?_ | with_reducible refine Rd.isi_sb ?_ | with_reducible refine Rd.isi_ss ?_ | with_reducible refine Rd.isi_sl ?_ | with_reducible refine Rd.isi_st ?_ | with_reducible refine Rd.isi_sd ?_ | with_reducible refine Rd.isi_ni ?_ | with_reducible refine Rd.isi_nb ?_ | with_reducible refine Rd.isi_ns ?_ | with_reducible refine Rd.isi_nl ?_ | with_reducible refine Rd.isi_nt ?_ | with_reducible refine Rd.isi_nd ?_ | with_reducible refine Rd.sl ?_ | with_reducible refine Rd.v0 ?_ | with_reducible refine Rd.v1 ?_ | with_reducible refine Rd.v2 ?_ | with_reducible refine Rd.v3 ?_ | with_reducible refine Rd.v4 ?_ | with_reducible refine Rd.v5 ?_ | with_reducible refine Rd.v6 ?_ | with_reducible refine Rd.v7 ?_ | with_reducible refine Rd.v8 ?_ | with_reducible refine Rd.v9 ?_ | with_reducible refine Rd.v10 ?_ | with_reducible refine Rd.v11 ?_ | with_reducible refine Rd.v12 ?_ | with_reducible refine Rd.v13 ?_ | with_reducible refine Rd.v14 ?_ | with_reducible refine Rd.v15 ?_ | with_reducible refine Rd.n0 ?_ | with_reducible refine Rd.n1 ?_ | with_reducible refine Rd.n2 ?_ | with_reducible refine Rd.n3 ?_ | with_reducible refine Rd.n4 ?_ | with_reducible refine Rd.n5 ?_ | with_reducible refine Rd.n6 ?_ | with_reducible refine Rd.n7 ?_ | with_reducible refine Rd.n8 ?_ | with_reducible refine Rd.n9 ?_ | with_reducible refine Rd.n10 ?_ | with_reducible refine Rd.n11 ?_ | with_reducible refine Rd.n12 ?_ | with_reducible refine Rd.n13 ?_ | with_reducible refine Rd.n14 ?_ | with_reducible refine Rd.n15 ?_ | with_reducible refine Rd.g0 ?_ | with_reducible refine Rd.g1 ?_ | with_reducible refine Rd.g2 ?_ | with_reducible refine Rd.g3 ?_ | with_reducible refine Rd.g4 ?_ | with_reducible refine Rd.g5 ?_ | with_reducible refine Rd.g6 ?_ | with_reducible refine Rd.g7 ?_ | with_reducible refine Rd.g8 ?_ | with_reducible refine Rd.g9 ?_ | with_reducible refine Rd.g10 ?_ | with_reducible refine Rd.g11 ?_ | with_reducible refine Rd.g12 ?_ | with_reducible refine Rd.g13 ?_ | with_reducible refine Rd.g14 ?_ | with_reducible refine Rd.g15 ?_ | ((with_reducible apply Rd.fldI); (first | assumption | exact upd_same); assumption; assumption; (first | assumption | with_unfolding_all rfl)) | ((with_reducible apply Rd.methI); (first | assumption | exact upd_same); (first | assumption | with_unfolding_all rfl)) | ((with_reducible apply Rd.sfldI); (first | assumption | exact upd_same); assumption; assumption; exact Nat.le_of_ble_eq_true rfl) | ((with_reducible apply Rd.maxL); assumption) | ((with_reducible apply Rd.anyL); assumption) | ((with_reducible apply Rd.sumL); assumption) | ((with_reducible refine Rd.izI (by assumption) (by assumption) ?_)) | ((with_reducible refine Rd.eq ?_ ?_); exact rfl) | ((with_reducible refine Rd.ne ?_ ?_); exact rfl) | ((with_reducible refine Rd.szA ?_ ?_); exact Nat.le_of_ble_eq_true rfl) | ((with_reducible refine Rd.I ?_ ?_); first | assumption | decide | exact Or.inr (by decide +kernel) | exact Or.inl (by decide +kernel) | exact ⟨by decide, by decide⟩ | exact ⟨by decide, by decide, by decide⟩ | omega) | ((with_reducible apply Rd.tyL); first | assumption | exact upd_same) | ((with_reducible apply Rd.tyLq); assumption) | ((with_reducible apply Rd.ixL); (first | assumption | exact upd_same); exact rfl) | ((with_reducible apply Rd.ixT); (first | assumption | exact upd_same); exact rfl) | ((with_reducible apply Rd.ixLq); assumption; exact rfl) | ((with_reducible apply Rd.ixTq); assumption; exact rfl) | ((with_reducible apply Rd.gtup); (first | assumption | exact upd_same); exact rfl) | ((with_reducible apply Rd.gtupq); assumption; exact rfl) | ((with_reducible apply Rd.sqAq); assumption) | ((with_reducible apply Rd.stAq); assumption) | ((with_reducible apply Rd.enAq); assumption) | ((with_reducible apply Rd.lenLq); assumption) | ((with_reducible apply Rd.lenTq); assumption) | ((with_reducible apply Rd.sqA); first | assumption | exact upd_same) | ((with_reducible apply Rd.stA); first | assumption | exact upd_same) | ((with_reducible apply Rd.enA); first | assumption | exact upd_same) | ((with_reducible apply Rd.lenL); first | assumption | exact upd_same) | ((with_reducible apply Rd.lenT); first | assumption | exact upd_same) | ((with_reducible refine Rd.nwT ?_ ?_); exact Nat.le_of_ble_eq_true rfl) | ((with_reducible refine Rd.nwL ?_ ?_); exact Nat.le_of_ble_eq_true rfl) | ((with_reducible apply Rd.isd); assumption) | ((with_reducible apply Rd.dictOf); assumption) | ((with_reducible refine Rd.isi_dd (by assumption) ?_)) | ((with_reducible apply Rd.itA); first | assumption | exact upd_same) | ((with_reducible apply Rd.ikA); first | assumption | exact upd_same) | ((with_reducible apply Rd.listOf); assumption) | ((with_reducible apply Rd.listOfq); assumption) | ((with_reducible apply Rd.slo); assumption) | ((with_reducible apply Rd.slq); assumption) | ((with_reducible apply Rd.srtI); assumption) | ((with_reducible apply Rd.srtIo); assumption) | ((with_reducible refine Rd.isi_li (by assumption) ?_)) | ((with_reducible refine Rd.isi_lb (by assumption) ?_)) | ((with_reducible refine Rd.isi_ls (by assumption) ?_)) | ((with_reducible refine Rd.isi_ll (by assumption) ?_)) | ((with_reducible refine Rd.isi_lt (by assumption) ?_)) | ((with_reducible refine Rd.isi_ld (by assumption) ?_)) | ((with_reducible refine Rd.isi_ti (by assumption) ?_)) | ((with_reducible refine Rd.isi_tb (by assumption) ?_)) | ((with_reducible refine Rd.isi_ts (by assumption) ?_)) | ((with_reducible refine Rd.isi_tl (by assumption) ?_)) | ((with_reducible refine Rd.isi_tt (by assumption) ?_)) | ((with_reducible refine Rd.isi_td (by assumption) ?_)))))
/-- rows of a law, made since H0 -/
def RwN (H0 H : Hp) (R : Addr) (rs : List (Int × List Int)) : Prop := ∃ vs, H R = some (.lst vs) ∧ H0 R = none ∧ vs.length = rs.length ∧ ∀ (i : Nat) r, rs[i]? = some r → ∃ t l, vs[i]? = some (.ref t) ∧ H t = some (.tup [.int r.1, .ref l]) ∧ H l = some (.lst (r.2.map V.int)) ∧ H0 t = none ∧ H0 l = none
theorem RwN.keep {H0 H H' : Hp} {R : Addr} {rs : List (Int × List Int)} (h : RwN H0 H R rs) (k : ∀ b o, H0 b = none → H b = some o → H' b = some o) : RwN H0 H' R rs := by
  obtain ⟨vs, a, n, b, c⟩ := h
  exact ⟨vs, k _ _ n a, n, b, fun i r e => let ⟨t, l, x, y, z, u, v⟩ := c i r e; ⟨t, l, x, k _ _ u y, k _ _ v z, u, v⟩⟩
theorem keep_new {H0 H H' : Hp} {p c : Addr} (st : StOk H0 p c) (k : Keep p H H') : ∀ b o, H0 b = none → H b = some o → H' b = some o := fun b o n h => k b o (st.ne n).1 h
section
variable {P : Program} {w : World} {K : PySem.W.Frag} {mg : Str → Option Value} {base : Heap}
def sp_law (K : PySem.W.Frag) : Sp := fun vs H Q _ => ∃ (a : Addr) (ns : List Int), vs = [.ref a] ∧ SqL K H a (ns.map V.int) ∧ ns.length ≤ 63 ∧ ∀ H', Q (.bl true) H'
theorem ok_law (T : Top K mg) : FnOk P w K mg base CX0 3 T.a_law T.d_law ["script"]  (sp_law K) := by
  refine T.F_law.ok sc_law (fun vs H Q E h => ?_) (fun cdv A outer s H vs Q E hr h => ?_)
  · obtain ⟨_, _, rfl, _⟩ := h
    rfl
  · obtain ⟨l, ns, rfl, hS, hlen, q⟩ := h
    refine ⟨_, (pss_cons (ps_set (i := 1) sc_law.nd rfl (by first | exact Or.inl rfl | exact Or.inr rfl) (pe_call (ok__law_start T) (hr.mono (by decide)) (by rfl) T.g__law_start T.F__law_start.kp T.b__law_start .nil pass0 (pa_cons (pv 0) pa_nil)))
  (pss_cons (ps_set (i := 2) sc_law.nd rfl (by first | exact Or.inl rfl | exact Or.inr rfl) (pe_ix ix_list (pe_lst (pa_cons pe_int (pa_cons pe_int (pa_cons (pe_op op_add pe_int (pe_call (ok__law_draw T) (hr.mono (by decide)) (by rfl) T.g__law_draw T.F__law_draw.kp T.b__law_draw .nil pass0 (pa_cons (pv 1) (pa_cons pe_int pa_nil)))) (pa_cons (pe_op op_add pe_int (pe_call (ok__law_draw T) (hr.mono (by decide)) (by rfl) T.g__law_draw T.F__law_draw.kp T.b__law_draw .nil pass0 (pa_cons (pv 1) (pa_cons pe_int pa_nil)))) pa_nil))))) (pe_call (ok__law_draw T) (hr.mono (by decide)) (by rfl) T.g__law_draw T.F__law_draw.kp T.b__law_draw .nil pass0 (pa_cons (pv 1) (pa_cons pe_int pa_nil))) (fun _ _ => rfl)))
  (pss_cons (ps_set (i := 3) sc_law.nd rfl (by first | exact Or.inl rfl | exact Or.inr rfl) (pe_lst pa_nil))
  (pss_cons (ps_for PassesOwn.never rfl (pi_range2 (by rfl) T.m_range (pa_cons pe_int (pa_cons pe_int pa_nil))) (pg_name (i := 4) sc_law.nd rfl (by first | exact Or.inl rfl | exact Or.inr rfl))
  (pss_one (ps_if (pw_and (pt_cmpR op_lt (pe_callB call_len_seq (by rfl) T.m_len PySem.boot_len (pa_cons (pv 3) pa_nil)) pe_int (nomark _)) (pw_and1 (pt_cmpR op_eq (pe_call (ok__law_draw T) (hr.mono (by decide)) (by rfl) T.g__law_draw T.F__law_draw.kp T.b__law_draw .nil pass0 (pa_cons (pv 1) (pa_cons pe_int pa_nil))) pe_int (nomark _)))).pt
  (pss_cons (ps_set (i := 5) sc_law.nd rfl (by first | exact Or.inl rfl | exact Or.inr rfl) (pe_call (ok__law_times T) (hr.mono (by decide)) (by rfl) T.g__law_times T.F__law_times.kp T.b__law_times .nil pass0 (pa_cons (pv 1) (pa_cons (pv 2) pa_nil))))
  (pss_cons (ps_set (i := 6) sc_law.nd rfl (by first | exact Or.inl rfl | exact Or.inr rfl) (pe_callTy call_list_of (by rfl) T.m_list (by decide +kernel) (pa_cons (pv 5) pa_nil)))
  (pss_cons (ps_set (i := 7) sc_law.nd rfl (by first | exact Or.inl rfl | exact Or.inr rfl) (pe_call (ok_accepted T) (hr.mono (by decide)) (by rfl) T.g_accepted T.F_accepted.kp T.b_accepted .nil pass0 (pa_cons (pv 6) (pa_cons (pv 2) pa_nil))))
  (pss_cons (ps_if (pw_or (pt_not (pt_val (pe_call (ok__law_accepts T) (hr.mono (by decide)) (by rfl) T.g__law_accepts T.F__law_accepts.kp T.b__law_accepts .nil pass0 (pa_cons (pv 5) (pa_cons (pv 7) (pa_cons (pv 2) pa_nil)))))) (pw_or1 (pt_cmpR (op_neD hr.units) (pv 6) (pv 5) (nomark _)))).pt
  (pss_one (ps_ret pe_bl))
  pss_nil)
  (pss_one (ps_set (i := 3) sc_law.nd rfl (by first | exact Or.inl rfl | exact Or.inr rfl) (pe_op op_cat (pe_lst (pa_cons (pe_tup (pa_cons (pv 4) (pa_cons (pv 7) pa_nil))) pa_nil)) (pv 3))))))))
  pss_nil)))
  (pss_one (ps_ret (pe_call (ok__law_ordered T) (hr.mono (by decide)) (by rfl) T.g__law_ordered T.F__law_ordered.kp T.b__law_ordered .nil pass0 (pa_cons (pe_make T.M_Timeline (ok_Timeline_init T) (hr.mono (by decide)) (by rfl) T.gc_Timeline T.b_Timeline_init .nil pass0 (pa_cons (pe_lc (own := [("number", 4), ("times", 5)]) (g := (gTup K 2 (gCons (gName 4) (gCons (gName 5) gNil)))) (tt := tYes) rfl sc_law.nd (pi_list (pv 3)) (blkOk_by (N := ["script", "state", "every", "rows", "number", "times", "given", "found"]) (sc := defScope s_law) (by decide +kernel)) (fun _ _ _ _ _ => (pg_tup rfl (pgs_cons (pg_name (i := 4) sc_law.nd rfl (Or.inl rfl)) (pgs_cons (pg_name (i := 5) sc_law.nd rfl (Or.inl rfl)) pgs_nil)))) (fun _ _ _ _ _ => pts_nil) (fun _ _ _ _ _ => (pe_tup (pa_cons (pv 4) (pa_cons (pe_callTy (show CallR _ (Value.type "list") (rListOf K) from call_list_of) (by rfl) T.m_list (by decide +kernel) (pa_cons (pv 5) pa_nil)) pa_nil))))) pa_nil)) (pa_cons (pv 3) pa_nil))))))))), ?_⟩
    rw [show ∀ a0 : V, L2.start ["script", "state", "every", "rows", "number", "times", "given", "found"] [a0] = [some a0, none, none, none, none, none, none, none] from fun _ => rfl]
    walk_at "my rn"
    refine ⟨l, ns, rfl, hS, hlen, fun H0 p c s0 np nc st0 => ?_⟩
    walk_at "my rn"
    refine ⟨p, c, _, rfl, st0, by decide, by decide, fun a1 H1 a10 a11 st1 k1 => ?_⟩
    walk_at "my rn"
    refine ⟨p, c, _, rfl, st1, by decide, by decide, fun a2 H2 a20 a21 st2 k2 => ?_⟩
    walk_at "my rn"
    intro E1 H3 nE s3 hE
    walk_at "my rn"
    refine ⟨p, c, _, rfl, st2.same s3, by decide, by decide, fun a3 H4 a30 a31 st4 k4 => ?_⟩
    have hE4 := k4 _ _ (st2.ne nE).1 hE
    obtain ⟨ev, ev0, hev⟩ : ∃ ev : Int, 0 < ev ∧ atI [V.int 1, V.int 4194304, V.int (1 + a1), V.int (1 + a2)] a3 = some (V.int ev) := by
      have : a3 = 0 ∨ a3 = 1 ∨ a3 = 2 ∨ a3 = 3 := by omega
      rcases this with e | e | e | e
      · exact ⟨1, by omega, by rw [e]; rfl⟩
      · exact ⟨4194304, by omega, by rw [e]; rfl⟩
      · exact ⟨1 + a1, by omega, by rw [e]; rfl⟩
      · exact ⟨1 + a2, by omega, by rw [e]; rfl⟩
    refine Rd.ixL hE4 hev ?_
    walk_at "my rn"
    intro R0 H5 nR s5 hR
    have k04 : Keep p H0 H4 := k1.trans (k2.trans ((Keep.same s3).trans k4))
    have nR0 : H0 R0 = none := k04.free st4 nR
    have k05 := k04.trans (Keep.same s5)
    have st5 := st4.same s5
    walk_at "my rn"
    refine ⟨by decide, for_it walk_range (fun i σ H' => ∃ (R : Addr) (rs : List (Int × List Int)) (y4 y5 y6 y7 : Option V), σ = [some (.ref l), some (.ref p), some (.int ev), some (.ref R), y4, y5, y6, y7] ∧ RwN H0 H' R rs ∧ rs.length ≤ 4 ∧ (∀ r ∈ rs, r.2.length ≤ 13) ∧ StOk H' p c ∧ Keep p H0 H')
      ⟨R0, [], none, none, none, none, rfl, ⟨[], hR, nR0, rfl, by simp⟩, by decide, by simp, st5, k05⟩ (fun _ _ _ _ _ => trivial) ?_ ?_⟩
    · rintro i x σ H6 H6' hi ⟨R, rs, y4, y5, y6, y7, rfl, hR6, lr, lt, st6, k6⟩ ⟨e6, rfl⟩
      rw [e6]
      obtain ⟨rv, hRv, nRv, lv, hrv⟩ := id hR6
      walk_at "my rn"
      refine Rd.ifD (fun c1 => ?_) (fun c1 => ?_)
      · walk_at "my rn"
        refine ⟨p, c, _, rfl, st6, by decide, by decide, fun d H7 d0 d1 st7 k7 => ?_⟩
        have hR7 := hR6.keep (keep_new st0 k7)
        have k07 := k6.trans k7
        walk_at "my rn"
        refine Rd.ifD (fun c2 => ?_) (fun c2 => ?_)
        · walk_at "my rn"
          refine ⟨p, c, ev, rfl, st7, fun H8 Tm ts nT hT lts st8 k8 => ?_⟩
          have hR8 := hR7.keep (keep_new st0 k8)
          have k08 := k07.trans k8
          walk_at "my rn"
          intro G H9 nG s9 hG
          have hT9 := s9 _ _ hT
          walk_at "my rn"
          refine ⟨G, ts, ev, rfl, hG, by omega, ev0, fun H10 F f s10 nF hF lf ac => ?_⟩
          have hT10 := s10 _ _ hT9
          have hG10 := s10 _ _ hG
          walk_at "my rn"
          refine ⟨Tm, F, ts, f, ev, rfl, hT10, hF, by omega, by omega, ev0, ac, fun H11 s11 => ?_⟩
          have hT11 := s11 _ _ hT10
          have hG11 := s11 _ _ hG10
          have hF11 := s11 _ _ hF
          walk_at "my rn"
          refine Rd.neD (dp_ints (SqL.of hG11)) (dp_ints (SqL.of hT11)) (ints_shaped _) (ints_shaped _) ?_
          rw [eqv_ints, decide_eq_true rfl]
          have s811 : Same H8 H11 := s9.trans (s10.trans s11)
          have k011 : Keep p H0 H11 := k08.trans (Keep.same s811)
          have st11 := st8.same s811
          have hR11 : RwN H0 H11 R rs := hR8.keep fun b o _ e => s811 _ _ e
          obtain ⟨rv', hRv', _, lv', hrv'⟩ := id hR11
          have nF0 : H0 F = none := (k08.trans (Keep.same s9)).free (st8.same s9) nF
          walk_at "my rn"
          intro tp H12 ntp s12 htp
          have ntp0 : H0 tp = none := k011.free st11 ntp
          walk_at "my rn"
          intro Lw H13 nLw s13 hLw
          have s1113 := s12.trans s13
          walk_at "my rn"
          refine Rd.cat hLw (s1113 _ _ hRv') (by simp; omega) fun R2 H14 nR2 s14 hR2 => ?_
          have s1114 := s1113.trans s14
          have nR20 : H0 R2 = none := (k011.trans (Keep.same s1113)).free (st11.same s1113) nR2
          walk_at "my rn"
          refine ⟨R2, (1 + (i : Int), f) :: rs, _, _, _, _, rfl, ⟨_, hR2, nR20, by simp [lv'], fun j r e => ?_⟩, by first | (simp; done) | (simp; omega), fun r m => ?_, st11.same s1114, k011.trans (Keep.same s1114)⟩
          · cases j with
            | zero =>
              simp at e
              subst e
              exact ⟨tp, F, rfl, s14 _ _ (s13 _ _ htp), s1114 _ _ hF11, ntp0, nF0⟩
            | succ j =>
              have e2 : rs[j]? = some r := by simpa using e
              obtain ⟨t, l2, a, b, c', d', e'⟩ := hrv' j r e2
              exact ⟨t, l2, by simpa using a, s1114 _ _ b, s1114 _ _ c', d', e'⟩
          · rcases List.mem_cons.mp m with rfl | m
            · show f.length ≤ 13
              omega
            · exact lt r m
        · walk_at "my rn"
          exact ⟨R, rs, _, _, _, _, rfl, hR7, lr, lt, st7, k07⟩
      · walk_at "my rn"
        exact ⟨R, rs, _, _, _, _, rfl, hR6, lr, lt, st6, k6⟩
    · rintro σ H6 ⟨R, rs, y4, y5, y6, y7, rfl, hR6, lr, lt, st6, k6⟩
      obtain ⟨rv, hRv, nRv, lv, hrv⟩ := id hR6
      walk_at "my rn"
      intro D nD
      refine Rd.lc_rel (walk_list (xs := rv)) (fun i v H => ∃ t l r, v = .ref t ∧ t ≠ D ∧ l ≠ D ∧ rs[i]? = some r ∧ H t = some (.tup [.int r.1, .ref l]) ∧ H l = some (.lst (r.2.map V.int))) nD (by omega) (fun i v _ _ ⟨t, l, r, h1, n1, n2, h2, h3, h4⟩ b => ⟨t, l, r, h1, n1, n2, h2, b _ _ n1 h3, b _ _ n2 h4⟩) (fun H b => (b.to nD).seq (SqL.of hRv)) (fun i x H7 H7' Kt hi b hDl y kt => ?_) (fun H7 ms lm hm s7 hD7 => ?_)
      · obtain ⟨rfl, hx⟩ := y
        obtain ⟨r, hr⟩ : ∃ r, rs[i]? = some r := ⟨_, List.getElem?_eq_getElem (by omega)⟩
        obtain ⟨t, l2, a, b1, b2, _, _⟩ := hrv i r hr
        rw [a] at hx
        cases hx
        have g1 := (b.to nD) _ _ b1
        have g2 := (b.to nD) _ _ b2
        obtain ⟨xsD, hxD⟩ := hDl
        simp only [List.map_cons, List.map_nil, L2.wipe, List.set_cons_succ, List.set_cons_zero]
        refine Rd.gtup g1 rfl ?_
        walk_at "my rn"
        refine ⟨rfl, ?_⟩
        walk_at "my rn"
        intro l3 H8 nl3 s8 hl3
        walk_at "my rn"
        intro t3 H9 nt3 s9 ht3
        exact kt _ _ ⟨t3, l3, r, rfl, fun z => (by have := s8 _ _ hxD; rw [← z, nt3] at this; cases this), fun z => (by rw [z, hxD] at nl3; cases nl3), hr, ht3, s9 _ _ hl3⟩ (s8.trans s9)
      have rw7 : RwAt K H7 D rs := ⟨ms, SqL.of hD7, by omega, fun i r e => by
        have hlt := (List.getElem?_eq_some_iff.mp e).1
        obtain ⟨v, hv⟩ : ∃ v, ms[i]? = some v := ⟨_, List.getElem?_eq_getElem (by omega)⟩
        obtain ⟨t, l, r2, rfl, _, _, h2, h3, h4⟩ := hm i v hv
        rw [e] at h2
        cases h2
        exact ⟨t, l, hv, h3, h4⟩⟩
      have rr7 : RwAt K H7 R rs := ⟨rv, SqL.of (s7 _ _ hRv), lv, fun i r e => let ⟨t, l, a, b, c, _, _⟩ := hrv i r e; ⟨t, l, a, s7 _ _ b, s7 _ _ c⟩⟩
      walk_at "my rn"
      intro o dx nO ndx dxo
      obtain ⟨H8, e8⟩ : ∃ H8, H8 = upd (upd H7 dx (.own o)) o (.ins T.C_Timeline dx []) := ⟨_, rfl⟩
      rw [← e8]
      have s78 : Same H7 H8 := fun b x e => by
        rw [e8, upd_ne (fun z => by rw [z, nO] at e; cases e), upd_ne (fun z => by rw [z, ndx] at e; cases e)]
        exact e
      refine ⟨o, dx, D, rs, rfl, by rw [e8]; exact upd_same, rw7.same s78, lr, lt, fun H9 Cm zs ps tl pm srt k9 => ⟨rfl, ?_⟩⟩
      have s79 : Same H7 H9 := fun b x e => k9 b x (fun z => by rw [z, nO] at e; cases e) (s78 _ _ e)
      walk_at "my rn"
      exact ⟨o, dx, Cm, R, zs, ps, rs, rfl, tl, rr7.same s79, lr, lt, pm, srt, fun H' => q _⟩
end

def top_mk {P : Program} {w : World} {K : PySem.W.Frag} {h : Heap} {mg : Str → Option Value} (X : K.In h) (G : h.Ns mainGlobals mg)
    {a__law_start : Addr} {od__law_start an__law_start : Option Addr} {sl__law_start : Array (Option Value)} {oc__law_start kV__law_start dc__law_start pm__law_start cd__law_start ct__law_start : Value}
    {a__law_draw : Addr} {od__law_draw an__law_draw : Option Addr} {sl__law_draw : Array (Option Value)} {oc__law_draw kV__law_draw dc__law_draw pm__law_draw cd__law_draw ct__law_draw : Value}
    {a_accepted : Addr} {od_accepted an_accepted : Option Addr} {sl_accepted : Array (Option Value)} {oc_accepted kV_accepted dc_accepted pm_accepted cd_accepted ct_accepted : Value}
    {a_Timeline_init : Addr} {od_Timeline_init an_Timeline_init : Option Addr} {sl_Timeline_init : Array (Option Value)} {oc_Timeline_init kV_Timeline_init dc_Timeline_init pm_Timeline_init cd_Timeline_init ct_Timeline_init : Value}
    {a_Timeline_next_time : Addr} {od_Timeline_next_time an_Timeline_next_time : Option Addr} {sl_Timeline_next_time : Array (Option Value)} {oc_Timeline_next_time kV_Timeline_next_time dc_Timeline_next_time pm_Timeline_next_time cd_Timeline_next_time ct_Timeline_next_time : Value}
    {a_Timeline_take : Addr} {od_Timeline_take an_Timeline_take : Option Addr} {sl_Timeline_take : Array (Option Value)} {oc_Timeline_take kV_Timeline_take dc_Timeline_take pm_Timeline_take cd_Timeline_take ct_Timeline_take : Value}
    {a__law_times : Addr} {od__law_times an__law_times : Option Addr} {sl__law_times : Array (Option Value)} {oc__law_times kV__law_times dc__law_times pm__law_times cd__law_times ct__law_times : Value}
    {a__law_accepts : Addr} {od__law_accepts an__law_accepts : Option Addr} {sl__law_accepts : Array (Option Value)} {oc__law_accepts kV__law_accepts dc__law_accepts pm__law_accepts cd__law_accepts ct__law_accepts : Value}
    {a__law_ordered : Addr} {od__law_ordered an__law_ordered : Option Addr} {sl__law_ordered : Array (Option Value)} {oc__law_ordered kV__law_ordered dc__law_ordered pm__law_ordered cd__law_ordered ct__law_ordered : Value}
    {a_law : Addr} {od_law an_law : Option Addr} {sl_law : Array (Option Value)} {oc_law kV_law dc_law pm_law cd_law ct_law : Value}
    {C_Timeline : Addr}
    (n__law_start : PySem.W.nsIn K mainGlobals "_law_start" = some (some (.ref a__law_start)))
    (n__law_draw : PySem.W.nsIn K mainGlobals "_law_draw" = some (some (.ref a__law_draw)))
    (n_accepted : PySem.W.nsIn K mainGlobals "accepted" = some (some (.ref a_accepted)))
    (n__law_times : PySem.W.nsIn K mainGlobals "_law_times" = some (some (.ref a__law_times)))
    (n__law_accepts : PySem.W.nsIn K mainGlobals "_law_accepts" = some (some (.ref a__law_accepts)))
    (n__law_ordered : PySem.W.nsIn K mainGlobals "_law_ordered" = some (some (.ref a__law_ordered)))
    (n_law : PySem.W.nsIn K mainGlobals "law" = some (some (.ref a_law)))
    (nc_Timeline : PySem.W.nsIn K mainGlobals "Timeline" = some (some (.ref C_Timeline)))
    (l__law_start : K.lookup a__law_start = some ⟨oc__law_start, od__law_start, .func (PySem.W.fnOf "_law_start" "_law_start" (defArgs s__law_start) (defBody s__law_start) (defScope s__law_start) .none kV__law_start dc__law_start pm__law_start an__law_start cd__law_start ct__law_start), sl__law_start⟩)
    (c__law_start : PySem.W.codeIn K cd__law_start "_law_start" = true)
    (k__law_start : PySem.W.keepIn K (.ref a__law_start) = true)
    (l__law_draw : K.lookup a__law_draw = some ⟨oc__law_draw, od__law_draw, .func (PySem.W.fnOf "_law_draw" "_law_draw" (defArgs s__law_draw) (defBody s__law_draw) (defScope s__law_draw) .none kV__law_draw dc__law_draw pm__law_draw an__law_draw cd__law_draw ct__law_draw), sl__law_draw⟩)
    (c__law_draw : PySem.W.codeIn K cd__law_draw "_law_draw" = true)
    (k__law_draw : PySem.W.keepIn K (.ref a__law_draw) = true)
    (l_accepted : K.lookup a_accepted = some ⟨oc_accepted, od_accepted, .func (PySem.W.fnOf "accepted" "accepted" (defArgs s_accepted) (defBody s_accepted) (defScope s_accepted) .none kV_accepted dc_accepted pm_accepted an_accepted cd_accepted ct_accepted), sl_accepted⟩)
    (c_accepted : PySem.W.codeIn K cd_accepted "accepted" = true)
    (k_accepted : PySem.W.keepIn K (.ref a_accepted) = true)
    (fi_Timeline_init : PySem.W.findIn K (.ref C_Timeline) "__init__" = some (some (.ref a_Timeline_init)))
    (fn_Timeline_init : PySem.W.isFn K (.ref a_Timeline_init) = true)
    (l_Timeline_init : K.lookup a_Timeline_init = some ⟨oc_Timeline_init, od_Timeline_init, .func (PySem.W.fnOf "__init__" "Timeline.__init__" (defArgs s_Timeline_init) (defBody s_Timeline_init) (defScope s_Timeline_init) .none kV_Timeline_init dc_Timeline_init pm_Timeline_init an_Timeline_init cd_Timeline_init ct_Timeline_init), sl_Timeline_init⟩)
    (c_Timeline_init : PySem.W.codeIn K cd_Timeline_init "Timeline.__init__" = true)
    (k_Timeline_init : PySem.W.keepIn K (.ref a_Timeline_init) = true)
    (fi_Timeline_next_time : PySem.W.findIn K (.ref C_Timeline) "next_time" = some (some (.ref a_Timeline_next_time)))
    (fn_Timeline_next_time : PySem.W.isFn K (.ref a_Timeline_next_time) = true)
    (l_Timeline_next_time : K.lookup a_Timeline_next_time = some ⟨oc_Timeline_next_time, od_Timeline_next_time, .func (PySem.W.fnOf "next_time" "Timeline.next_time" (defArgs s_Timeline_next_time) (defBody s_Timeline_next_time) (defScope s_Timeline_next_time) .none kV_Timeline_next_time dc_Timeline_next_time pm_Timeline_next_time an_Timeline_next_time cd_Timeline_next_time ct_Timeline_next_time), sl_Timeline_next_time⟩)
    (c_Timeline_next_time : PySem.W.codeIn K cd_Timeline_next_time "Timeline.next_time" = true)
    (k_Timeline_next_time : PySem.W.keepIn K (.ref a_Timeline_next_time) = true)
    (fi_Timeline_take : PySem.W.findIn K (.ref C_Timeline) "take" = some (some (.ref a_Timeline_take)))
    (fn_Timeline_take : PySem.W.isFn K (.ref a_Timeline_take) = true)
    (l_Timeline_take : K.lookup a_Timeline_take = some ⟨oc_Timeline_take, od_Timeline_take, .func (PySem.W.fnOf "take" "Timeline.take" (defArgs s_Timeline_take) (defBody s_Timeline_take) (defScope s_Timeline_take) .none kV_Timeline_take dc_Timeline_take pm_Timeline_take an_Timeline_take cd_Timeline_take ct_Timeline_take), sl_Timeline_take⟩)
    (c_Timeline_take : PySem.W.codeIn K cd_Timeline_take "Timeline.take" = true)
    (k_Timeline_take : PySem.W.keepIn K (.ref a_Timeline_take) = true)
    (l__law_times : K.lookup a__law_times = some ⟨oc__law_times, od__law_times, .func (PySem.W.fnOf "_law_times" "_law_times" (defArgs s__law_times) (defBody s__law_times) (defScope s__law_times) .none kV__law_times dc__law_times pm__law_times an__law_times cd__law_times ct__law_times), sl__law_times⟩)
    (c__law_times : PySem.W.codeIn K cd__law_times "_law_times" = true)
    (k__law_times : PySem.W.keepIn K (.ref a__law_times) = true)
    (l__law_accepts : K.lookup a__law_accepts = some ⟨oc__law_accepts, od__law_accepts, .func (PySem.W.fnOf "_law_accepts" "_law_accepts" (defArgs s__law_accepts) (defBody s__law_accepts) (defScope s__law_accepts) .none kV__law_accepts dc__law_accepts pm__law_accepts an__law_accepts cd__law_accepts ct__law_accepts), sl__law_accepts⟩)
    (c__law_accepts : PySem.W.codeIn K cd__law_accepts "_law_accepts" = true)
    (k__law_accepts : PySem.W.keepIn K (.ref a__law_accepts) = true)
    (l__law_ordered : K.lookup a__law_ordered = some ⟨oc__law_ordered, od__law_ordered, .func (PySem.W.fnOf "_law_ordered" "_law_ordered" (defArgs s__law_ordered) (defBody s__law_ordered) (defScope s__law_ordered) .none kV__law_ordered dc__law_ordered pm__law_ordered an__law_ordered cd__law_ordered ct__law_ordered), sl__law_ordered⟩)
    (c__law_ordered : PySem.W.codeIn K cd__law_ordered "_law_ordered" = true)
    (k__law_ordered : PySem.W.keepIn K (.ref a__law_ordered) = true)
    (l_law : K.lookup a_law = some ⟨oc_law, od_law, .func (PySem.W.fnOf "law" "law" (defArgs s_law) (defBody s_law) (defScope s_law) .none kV_law dc_law pm_law an_law cd_law ct_law), sl_law⟩)
    (c_law : PySem.W.codeIn K cd_law "law" = true)
    (k_law : PySem.W.keepIn K (.ref a_law) = true)
    (kpg_Timeline : PySem.W.plainGet K C_Timeline Str.empty = true)
    (khd_Timeline : PySem.W.hasDictIn K C_Timeline = true)
    (kpo_Timeline : PySem.W.plainOver K C_Timeline = true)
    (ksa_Timeline : PySem.W.findIn K (.ref C_Timeline) "__setattr__" = some (some (.builtin "object.__setattr__")))
    (kmk_Timeline : PySem.W.makesIn K C_Timeline = true)
    (kkc_Timeline : PySem.W.keepIn K (.ref C_Timeline) = true)
    (kn_Timeline_coming : PySem.W.findIn K (.ref C_Timeline) "coming" = some none)
    (kn_Timeline_taken : PySem.W.findIn K (.ref C_Timeline) "taken" = some none)
    (z_list : PySem.W.nsIn K mainGlobals "list" = some none)
    (z_int : PySem.W.nsIn K mainGlobals "int" = some none)
    (z_len : PySem.W.nsIn K mainGlobals "len" = some none)
    (z_abs : PySem.W.nsIn K mainGlobals "abs" = some none)
    (z_sorted : PySem.W.nsIn K mainGlobals "sorted" = some none)
    (z_range : PySem.W.nsIn K mainGlobals "range" = some none)
    (z_isinstance : PySem.W.nsIn K mainGlobals "isinstance" = some none)
    (z_tuple : PySem.W.nsIn K mainGlobals "tuple" = some none)
    (z_min : PySem.W.nsIn K mainGlobals "min" = some none) :
    Top K mg :=
  { a__law_start := a__law_start,
    d__law_start := _,
    F__law_start := fun_mk (st := s__law_start) l__law_start c__law_start k__law_start,
    g__law_start := PySem.W.mg_of X G n__law_start,
    b__law_start := (fun_mk (st := s__law_start) l__law_start c__law_start k__law_start).binds (ps := ["script"]) fun _ _ _ _ _ _ us hl => match us, hl with | [_], _ => rfl,
    a__law_draw := a__law_draw,
    d__law_draw := _,
    F__law_draw := fun_mk (st := s__law_draw) l__law_draw c__law_draw k__law_draw,
    g__law_draw := PySem.W.mg_of X G n__law_draw,
    b__law_draw := (fun_mk (st := s__law_draw) l__law_draw c__law_draw k__law_draw).binds (ps := ["state", "many"]) fun _ _ _ _ _ _ us hl => match us, hl with | [_, _], _ => rfl,
    a_accepted := a_accepted,
    d_accepted := _,
    F_accepted := fun_mk (st := s_accepted) l_accepted c_accepted k_accepted,
    g_accepted := PySem.W.mg_of X G n_accepted,
    b_accepted := (fun_mk (st := s_accepted) l_accepted c_accepted k_accepted).binds (ps := ["times", "every"]) fun _ _ _ _ _ _ us hl => match us, hl with | [_, _], _ => rfl,
    a_Timeline_init := a_Timeline_init,
    d_Timeline_init := _,
    F_Timeline_init := fun_mk (st := s_Timeline_init) l_Timeline_init c_Timeline_init k_Timeline_init,
    M_Timeline := ⟨kmk_Timeline, fi_Timeline_init, fn_Timeline_init, kkc_Timeline⟩,
    b_Timeline_init := (fun_mk (st := s_Timeline_init) l_Timeline_init c_Timeline_init k_Timeline_init).binds (ps := ["self", "rows"]) fun _ _ _ _ _ _ us hl => match us, hl with | [_, _], _ => rfl,
    a_Timeline_next_time := a_Timeline_next_time,
    d_Timeline_next_time := _,
    F_Timeline_next_time := fun_mk (st := s_Timeline_next_time) l_Timeline_next_time c_Timeline_next_time k_Timeline_next_time,
    m_Timeline_next_time := ⟨fi_Timeline_next_time, fn_Timeline_next_time, k_Timeline_next_time⟩,
    b_Timeline_next_time := (fun_mk (st := s_Timeline_next_time) l_Timeline_next_time c_Timeline_next_time k_Timeline_next_time).binds (ps := ["self"]) fun _ _ _ _ _ _ us hl => match us, hl with | [_], _ => rfl,
    a_Timeline_take := a_Timeline_take,
    d_Timeline_take := _,
    F_Timeline_take := fun_mk (st := s_Timeline_take) l_Timeline_take c_Timeline_take k_Timeline_take,
    m_Timeline_take := ⟨fi_Timeline_take, fn_Timeline_take, k_Timeline_take⟩,
    b_Timeline_take := (fun_mk (st := s_Timeline_take) l_Timeline_take c_Timeline_take k_Timeline_take).binds (ps := ["self"]) fun _ _ _ _ _ _ us hl => match us, hl with | [_], _ => rfl,
    a__law_times := a__law_times,
    d__law_times := _,
    F__law_times := fun_mk (st := s__law_times) l__law_times c__law_times k__law_times,
    g__law_times := PySem.W.mg_of X G n__law_times,
    b__law_times := (fun_mk (st := s__law_times) l__law_times c__law_times k__law_times).binds (ps := ["state", "every"]) fun _ _ _ _ _ _ us hl => match us, hl with | [_, _], _ => rfl,
    a__law_accepts := a__law_accepts,
    d__law_accepts := _,
    F__law_accepts := fun_mk (st := s__law_accepts) l__law_accepts c__law_accepts k__law_accepts,
    g__law_accepts := PySem.W.mg_of X G n__law_accepts,
    b__law_accepts := (fun_mk (st := s__law_accepts) l__law_accepts c__law_accepts k__law_accepts).binds (ps := ["times", "found", "every"]) fun _ _ _ _ _ _ us hl => match us, hl with | [_, _, _], _ => rfl,
    a__law_ordered := a__law_ordered,
    d__law_ordered := _,
    F__law_ordered := fun_mk (st := s__law_ordered) l__law_ordered c__law_ordered k__law_ordered,
    g__law_ordered := PySem.W.mg_of X G n__law_ordered,
    b__law_ordered := (fun_mk (st := s__law_ordered) l__law_ordered c__law_ordered k__law_ordered).binds (ps := ["timeline", "rows"]) fun _ _ _ _ _ _ us hl => match us, hl with | [_, _], _ => rfl,
    a_law := a_law,
    d_law := _,
    F_law := fun_mk (st := s_law) l_law c_law k_law,
    g_law := PySem.W.mg_of X G n_law,
    b_law := (fun_mk (st := s_law) l_law c_law k_law).binds (ps := ["script"]) fun _ _ _ _ _ _ us hl => match us, hl with | [_], _ => rfl,
    C_Timeline := C_Timeline,
    gc_Timeline := PySem.W.mg_of X G nc_Timeline,
    cl_Timeline := ⟨kpg_Timeline, khd_Timeline, kpo_Timeline, ksa_Timeline⟩,
    n_Timeline_coming := kn_Timeline_coming,
    n_Timeline_taken := kn_Timeline_taken,
    m_list := PySem.W.mg_none_of X G z_list,
    m_int := PySem.W.mg_none_of X G z_int,
    m_len := PySem.W.mg_none_of X G z_len,
    m_abs := PySem.W.mg_none_of X G z_abs,
    m_sorted := PySem.W.mg_none_of X G z_sorted,
    m_range := PySem.W.mg_none_of X G z_range,
    m_isinstance := PySem.W.mg_none_of X G z_isinstance,
    m_tuple := PySem.W.mg_none_of X G z_tuple,
    m_min := PySem.W.mg_none_of X G z_min }
theorem all_mk {l : PySem.W.OpenLaw} {w : World} {K : PySem.W.Frag} {mg : Str → Option Value} {fa : Addr} (T : Top K mg) (hfa : mg "law" = some (.ref fa)) :
    ∃ fd : FuncData, (∀ (s : Shared) (v : Value), BindsTo s fd ⟨[v], []⟩ [("script", v)]) ∧ ∀ base : Heap, K.In base → base.Ns mainGlobals mg → FnOk l.prog w K mg base CX0 3 fa fd ["script"] (sp_law K) := by
  have e := hfa.symm.trans T.g_law
  cases e
  refine ⟨T.d_law, fun s v => ?_, fun base _ _ => ok_law T⟩
  obtain ⟨oc, od, kV, doc, pm, an, cdv, ct, osl, e, lk, hcd⟩ := T.F_law.ex
  rw [e]
  exact .of_eq rfl
end Mine
open PySem PySem.W PyProof.Rows
set_option maxHeartbeats 0 in
theorem PySem.Challenge.cw_deadbeat_k54_accepted_releases_holds : PySem.Challenge.rw_deadbeat_k54_accepted_releases.Holds := by
  w_on; o_law; k_head; (case hw => w_witness2)
  k_fill
  refine L2.walk_of (l := PySem.Challenge.rw_deadbeat_k54_accepted_releases) (n := 63) (k := 3) (x := "script") (CX := fun _ => L2.CX0) (sp := fun w => Mine.sp_law _) rfl (by decide) rfl ⟨rfl, by decide, by decide⟩ (fun w h Y => PySem.W.kIn_of Y) ?F (fun _ _ a ns hl _ hS => ⟨a, ns, rfl, hS, hl, fun _ => rfl⟩) (fun _ _ _ _ _ h => h)
  case F =>
    intro w mg fa h KX G hmg
    refine' Mine.all_mk (Mine.top_mk (P := PySem.Challenge.rw_deadbeat_k54_accepted_releases.prog) (w := w) KX G ?n__law_start ?n__law_draw ?n_accepted ?n__law_times ?n__law_accepts ?n__law_ordered ?n_law ?nc_Timeline ?l__law_start ?c__law_start ?k__law_start ?l__law_draw ?c__law_draw ?k__law_draw ?l_accepted ?c_accepted ?k_accepted ?fi_Timeline_init ?fn_Timeline_init ?l_Timeline_init ?c_Timeline_init ?k_Timeline_init ?fi_Timeline_next_time ?fn_Timeline_next_time ?l_Timeline_next_time ?c_Timeline_next_time ?k_Timeline_next_time ?fi_Timeline_take ?fn_Timeline_take ?l_Timeline_take ?c_Timeline_take ?k_Timeline_take ?l__law_times ?c__law_times ?k__law_times ?l__law_accepts ?c__law_accepts ?k__law_accepts ?l__law_ordered ?c__law_ordered ?k__law_ordered ?l_law ?c_law ?k_law ?kpg_Timeline ?khd_Timeline ?kpo_Timeline ?ksa_Timeline ?kmk_Timeline ?kkc_Timeline ?kn_Timeline_coming ?kn_Timeline_taken ?z_list ?z_int ?z_len ?z_abs ?z_sorted ?z_range ?z_isinstance ?z_tuple ?z_min) hmg
    (case n__law_start => k_is); (case n__law_draw => k_is); (case n_accepted => k_is); (case n__law_times => k_is); (case n__law_accepts => k_is); (case n__law_ordered => k_is); (case n_law => k_is); (case nc_Timeline => k_is); (case l__law_start => k_is); (case c__law_start => k_is); (case k__law_start => k_is); (case l__law_draw => k_is); (case c__law_draw => k_is); (case k__law_draw => k_is); (case l_accepted => k_is); (case c_accepted => k_is); (case k_accepted => k_is); (case fi_Timeline_init => k_is); (case fn_Timeline_init => k_is); (case l_Timeline_init => k_is); (case c_Timeline_init => k_is); (case k_Timeline_init => k_is); (case fi_Timeline_next_time => k_is); (case fn_Timeline_next_time => k_is); (case l_Timeline_next_time => k_is); (case c_Timeline_next_time => k_is); (case k_Timeline_next_time => k_is); (case fi_Timeline_take => k_is); (case fn_Timeline_take => k_is); (case l_Timeline_take => k_is); (case c_Timeline_take => k_is); (case k_Timeline_take => k_is); (case l__law_times => k_is); (case c__law_times => k_is); (case k__law_times => k_is); (case l__law_accepts => k_is); (case c__law_accepts => k_is); (case k__law_accepts => k_is); (case l__law_ordered => k_is); (case c__law_ordered => k_is); (case k__law_ordered => k_is); (case l_law => k_is); (case c_law => k_is); (case k_law => k_is); (case kpg_Timeline => k_is); (case khd_Timeline => k_is); (case kpo_Timeline => k_is); (case ksa_Timeline => k_is); (case kmk_Timeline => k_is); (case kkc_Timeline => k_is); (case kn_Timeline_coming => k_is); (case kn_Timeline_taken => k_is); (case z_list => k_is); (case z_int => k_is); (case z_len => k_is); (case z_abs => k_is); (case z_sorted => k_is); (case z_range => k_is); (case z_isinstance => k_is); (case z_tuple => k_is); (case z_min => k_is)
