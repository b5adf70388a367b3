import PyProof.Rows.All
import Wide.All
import OpenK.AllK
import Wide.FinOn
import PyProof.RulesMatch
import HandS.Base
import HandS.Call
import HandS.Words
import HandS.IsInst
import HandS.ForExc
import HandS.Zip
import HandS.Walk
import HandS.Strs
import HandS.ForMost
import HandS.RaiseMore
import PyProof.InstEq
import HandS.TupSets
import PyProof.EqKinds
import PyProof.NeKinds
import HandS.Evl
import HandS.SortInts
import HandS.DictComp
import HandS.More
import HandS.List
import KE.DatumOrd
import HandS.SortKw
import HandS.SetKeys
import PySem.Challenge.RW_deadbeat_k51_waiting_jobs
import HandS.Wide
import HandS.WideBits
import HandS.Style
import HandS.StrMore
import HandS.IntHex
import HandS.ReSub
import HandS.Codes
import HandS.SetFor
import HandS.TupLe
import HandS.SortRule
import HandS.Deep
import HandS.DeepEq
set_option Elab.async false
set_option linter.all false
set_option maxRecDepth 100000
namespace L2
open PySem PySem.Spec PyProof.Rows
/-- the cases of a match over texts: a written text or whatever is left, and what is done -/
def tCases (z : Str) : List (Option Str × TS) → TS
  | [] => fun D σ H => D.nx σ H
  | (none, t) :: _ => t
  | (some c, t) :: r => fun D σ H => if z = c then t D σ H else tCases z r D σ H
def tMatch (te : TE) (l : List (Option Str × TS)) : TS := fun D σ H => te σ H fun x H1 => ∃ z : Str, x = .str z ∧ tCases z l D σ H1
inductive PCs (X : Cx) : List MatchCase → List (Option Str × TS) → Prop
  | nil : PCs X [] []
  | rest {body : List Stmt} {t : TS} {p : Pos} {r : List MatchCase} : PSs X body t → PCs X (⟨.MatchAs none none p, none, body⟩ :: r) [(none, t)]
  | text {body : List Stmt} {t : TS} {c : Str} {j : Nat} {p p2 : Pos} {r : List MatchCase} {l : List (Option Str × TS)} : PSs X body t → PCs X r l →
      PCs X (⟨.MatchValue (.Constant (.str c) j p) p2, none, body⟩ :: r) ((some c, t) :: l)
theorem run_cases {X : Cx} {z : Str} {u : Value} (ru : RelV (.str z) u) : ∀ {cs : List MatchCase} {l : List (Option Str × TS)}, PCs X cs l → ∀ (first : Bool) (pins : List (Addr × Obj)) (s : Shared) (σ : St) (H : Hp) (D : Ends), Inv X pins σ H s → tCases z l D σ H →
    wpAny (model X.prog X.w) X.A (matchCases cs X.env u first) (SP X pins D) X.xe s
  | _, _, .nil, first, pins, s, σ, H, D, I, h => wpAny_matchCases_nil ⟨σ, H, I, h⟩
  | _, _, .rest hb, first, pins, s, σ, H, D, I, h => by
    refine wpAny_matchCases_cons (wpAny_matchPattern_Capture ?_)
    exact wpAny_assignInOrder_none (hb.run pins s σ H D I h)
  | _, _, .text (c := c) (l := l) hb hr, first, pins, s, σ, H, D, I, h => by
    refine wpAny_matchCases_cons (wpAny_matchPattern_Value ?_)
    refine thn ((pe_str (X := X) (x := c)).run pins s σ H (fun v H' => v = .str c ∧ H' = H) I ⟨rfl, rfl⟩) fun v s1 hh => ?_
    obtain ⟨x, H1, I1, rx, ex, eH⟩ := hh
    subst ex
    subst eH
    refine thn (op_eq pins s1 σ H1 (.str z) (.str c) u v (fun y H' => y = .bl (decide (V.str z = V.str c)) ∧ H' = H1) I1 ru rx ⟨rfl, rfl, rfl⟩) fun y s2 hh => ?_
    obtain ⟨x, H2, I2, rx2, ex, eH⟩ := hh
    subst ex
    subst eH
    cases rx2
    refine wpAny_truthy_bool ?_
    have h' : (if z = c then _ else _) := h
    by_cases e : z = c
    · rw [if_pos e] at h'
      rw [decide_eq_true (by rw [e])]
      exact wpAny_assignInOrder_none (hb.run pins s2 σ H2 D I2 h')
    · rw [if_neg e] at h'
      rw [decide_eq_false (fun q => e (by injection q))]
      exact run_cases ru hr false pins s2 σ H2 D I2 h'
theorem ps_match {X : Cx} {e : Expr} {te : TE} {cs : List MatchCase} {l : List (Option Str × TS)} {pos : Pos} (he : PE X e te) (hc : PCs X cs l) : PS X (.Match e cs pos) (tMatch te l) := by
  refine ⟨fun pins s σ H D I h => wpAny_Match ?_⟩
  refine thn (he.run pins s σ H _ I h) fun u s1 hh => ?_
  obtain ⟨x, H1, I1, rx, z, ez, hz⟩ := hh
  subst ez
  exact run_cases rx hc true pins s1 σ H1 D I1 hz
/-- a module's constant: an int, a text, an object -/
theorem pe_gi {X : Cx} {x : Str} {n : Int} {t : Tok} {pos : Pos} (hg : Gl X x) (hm : X.mg x = some (.int n t)) (hd : (x == ("__debug__" : Str)) = false := by decide) : PE X (.Name x pos) (tC (.int n)) := pe_glob hg hm ⟨_, rfl⟩ hd
theorem pe_gs {X : Cx} {x : Str} {z : Str} {t : Tok} {pos : Pos} (hg : Gl X x) (hm : X.mg x = some (.str z t)) (hd : (x == ("__debug__" : Str)) = false := by decide) : PE X (.Name x pos) (tC (.str z)) := pe_glob hg hm ⟨_, rfl⟩ hd
theorem pe_gr {X : Cx} {x : Str} {a : Addr} {pos : Pos} (hg : Gl X x) (hm : X.mg x = some (.ref a)) (hd : (x == ("__debug__" : Str)) = false := by decide) : PE X (.Name x pos) (tC (.ref a)) := pe_glob (v := .ref a) hg hm rfl hd
/-- a built-in type as a value -/
theorem pe_ty {X : Cx} {x : Str} {T : String} {pos : Pos} (hg : Gl X x) (hm : X.mg x = none) (hv : bootBuiltins x = some (.type T)) (hn : x ≠ "__name__" := by decide) (hd : (x == ("__debug__" : Str)) = false := by decide) : PE X (.Name x pos) (tC (.ty T)) :=
  ⟨fun _ s _ H _ I h => ld_blt I hg hm hv ⟨.ty T, H, I, rfl, h⟩ hn hd⟩
/-- isinstance of a plain value and a built-in type -/
theorem isi_int {K : PySem.W.Frag} {H : Hp} {Q : VK} {i : Int} (q : Q (.bl true) H) : rIsi K [.int i, .ty "int"] H Q := ⟨_, _, _, _, true, rfl, .ty _, .base (.int _), kit_ty (by decide +kernel), q⟩
theorem isi_int_bool {K : PySem.W.Frag} {H : Hp} {Q : VK} {i : Int} (q : Q (.bl false) H) : rIsi K [.int i, .ty "bool"] H Q := ⟨_, _, _, _, false, rfl, .ty _, .base (.int _), kit_ty (by decide +kernel), q⟩
theorem Same.none {H H' : Hp} (e : Same H H') {p : Addr} (h : H' p = Option.none) : H p = Option.none := Same.free e h
theorem same_new {H : Hp} {p : Addr} {o : HO} (h : H p = Option.none) : Same H (upd H p o) := fun b x e => by
  rw [upd_ne (ne_of_none e h)]
  exact e
theorem or_test {t u : TT} {σ : St} {H : Hp} {a b : Bool} {Q : Bool → Hp → Prop} (h1 : ∀ Q' : Bool → Hp → Prop, Q' a H → t σ H Q') (h2 : a = false → ∀ Q' : Bool → Hp → Prop, Q' b H → u σ H Q') (q : Q (a || b) H) : tOr t u σ H Q := by
  refine h1 _ ?_
  cases a with
  | true => exact iteT q
  | false => exact iteF (h2 rfl _ q)
theorem and_test {t u : TT} {σ : St} {H : Hp} {a b : Bool} {Q : Bool → Hp → Prop} (h1 : ∀ Q' : Bool → Hp → Prop, Q' a H → t σ H Q') (h2 : a = true → ∀ Q' : Bool → Hp → Prop, Q' b H → u σ H Q') (q : Q (a && b) H) : tAnd t u σ H Q := by
  refine h1 _ ?_
  cases a with
  | true => exact iteT (h2 rfl _ q)
  | false => exact iteF q
theorem if_or {t u : TT} {a b : Bool} {A B : TS} {D : Ends} {σ : St} {H : Hp} (h1 : ∀ Q' : Bool → Hp → Prop, Q' a H → t σ H Q') (h2 : a = false → ∀ Q' : Bool → Hp → Prop, Q' b H → u σ H Q') (q : if (a || b) = true then A D σ H else B D σ H) : tIfS (tOr t u) A B D σ H := or_test h1 h2 q
theorem if_and {t u : TT} {a b : Bool} {A B : TS} {D : Ends} {σ : St} {H : Hp} (h1 : ∀ Q' : Bool → Hp → Prop, Q' a H → t σ H Q') (h2 : a = true → ∀ Q' : Bool → Hp → Prop, Q' b H → u σ H Q') (q : if (a && b) = true then A D σ H else B D σ H) : tIfS (tAnd t u) A B D σ H := and_test h1 h2 q
theorem Same.off {H H1 : Hp} {D : Addr} {x : HO} (k : Same H H1) (n : H D = Option.none) : Same H (upd H1 D x) := fun b y e => by
  rw [upd_ne (ne_of_none e n)]
  exact k b y e
theorem Same.seqT {K : PySem.W.Frag} {H H' : Hp} {a : Addr} {xs : List V} (e : Same H H') (h : SqT K H a xs) : SqT K H' a xs := by
  rcases h with h | h
  · rcases h with h | ⟨o, h⟩
    · exact .inl (.inl (e _ _ h))
    · exact .inl (.inr ⟨o, e _ _ h⟩)
  · exact .inr h
/-- a def that may raise, called where it does not -/
theorem pass_no {X : Cx} : Passes (L2.CX X.prog X.w) X (fun _ _ _ => False) := fun _ _ _ _ _ _ _ c => by
  obtain ⟨_, _, _, _, _, _, _, _, _, _, _, _, z⟩ := c
  exact z.elim
def rListOf (K : PySem.W.Frag) : List V → Hp → VK → Prop := fun xs H Q => ∃ p ys, xs = [V.ref p] ∧ (SqL K H p ys ∨ SqT K H p ys) ∧ ∀ l, H l = Option.none → Q (.ref l) (upd H l (.lst ys))
theorem if_t {b : Bool} {A B : Prop} (h : b = true) (q : A) : if b = true then A else B := by
  rw [if_pos h]
  exact q
theorem if_f {b : Bool} {A B : Prop} (h : b = false) (q : B) : if b = true then A else B := by
  rw [if_neg (by rw [h]; exact Bool.noConfusion)]
  exact q
/-- a tuple of the written part, as it stands there -/
theorem sqT_lit {K : PySem.W.Frag} {p : Addr} {dd : Option Addr} {us : Array Value} {n : Nat} {sl : Array (Option Value)} {xs : List V} {H : Hp} (w : K.lookup p = some ⟨.type "tuple", dd, .seq us n, sl⟩) (y : Vals xs us.toList) (hl : xs.length ≤ sizeLine := by decide) : SqT K H p xs :=
  .inr ⟨_, us, n, w, rfl, rfl, Nat.le_trans (Nat.le_of_eq (by rw [← Array.length_toList]; exact (Paired.length y).symm)) hl, y⟩
end L2

set_option Elab.async false
set_option linter.all false
set_option maxRecDepth 100000
namespace L2
open PySem PySem.Spec PyProof.Rows
/-! an own object, and a method, whose def may raise, within a try's body -/
section
variable {X : Cx} {CX : CXT} {lv : Nat} {fa cA : Addr} {fd : FuncData} {pn : List Str} {sp : Sp} {nm mm : Str} {p1 p2 p3 : Pos} {e1 oe : Expr} {er : List Expr} {to' : TE} {tr : TA}
theorem mkS_run {EE : XK} {pins : List (Addr × Obj)} {σ : St} {H : Hp} {s : Shared} {Q : VK} {us : List Value} {vs : List V}
    (M : Mk X.K cA fa) (F : FnOk X.prog X.w X.K X.mg X.base CX lv fa fd pn sp) (rm : Room (lv + 1) X.A)
    (bi : Binds X.K fd pn []) (out : PassesAt CX X σ EE) (I : Inv X pins σ H s) (r : Vals vs us)
    (h : ∀ x dx, H x = none → H dx = none → dx ≠ x →
      sp (.ref x :: vs) (upd (upd H dx (.own x)) x (.ins cA dx [])) (fun v H2 => v = .non ∧ Q (.ref x) H2) EE) :
    wpAny (model X.prog X.w) X.A (call (.ref cA) us) (EP X pins σ Q) X.xe s := by
  have J := Inv.made (C := cA) I
  obtain ⟨n, en⟩ : ∃ n, n = s.heap.objs.size := ⟨_, rfl⟩
  have q0 := h _ _ (I.hok.fresh (Nat.le_succ _)) (I.hok.fresh (Nat.le_refl _)) (Nat.ne_of_lt (Nat.lt_succ_self _))
  have rr : Vals (V.ref (s.heap.objs.size + 1) :: vs) (Value.ref (s.heap.objs.size + 1) :: us) := .cons rfl r
  have ln : (Value.ref (s.heap.objs.size + 1) :: us).length = pn.length :=
    rr.length.symm.trans (F.len _ _ _ _ q0)
  have bb := bi _ (Value.ref (s.heap.objs.size + 1) :: us) J.kIn (by rw [List.append_nil]; exact ln)
  rw [List.append_nil] at bb
  have run := F.run _ X.stack _ _ ⟨Value.ref (s.heap.objs.size + 1) :: us, []⟩ _ _ _ EE
    (rm.make cA us []) (J.env0.make cA us []) bb rr q0
  refine wpAny_call (make_map (f := fa) I.kIn M.makes M.init (beq_iff_eq.mp M.fn) (codeAny_mono run fun res s' got => ?_))
  match res, got with
  | .error e, got => exact out pins _ _ e s' J got
  | .ok (.ret u), got =>
    obtain ⟨v, H', J3, rv, ev, q3⟩ := J.after got
    rw [ev] at rv
    exact ⟨rv, V.ref (s.heap.objs.size + 1), H', J3, rfl, q3⟩
  | .ok .next, got => cases got
  | .ok .brk, got => cases got
  | .ok .cont, got => cases got
def tMakeS (C : Addr) (sp : Sp) (E : St → XK) (t : TA) : TE := fun σ H Q => t σ H fun vs H1 => ∀ x dx, H1 x = none → H1 dx = none → dx ≠ x →
  sp (.ref x :: vs) (upd (upd H1 dx (.own x)) x (.ins C dx [])) (fun v H2 => v = .non ∧ Q (.ref x) H2) (E σ)
theorem pe_makeS {EE : St → XK} (M : Mk X.K cA fa) (F : FnOk X.prog X.w X.K X.mg X.base CX lv fa fd pn sp)
    (rm : Room (lv + 1) X.A) (hg : Gl X nm) (hm : X.mg nm = some (.ref cA)) (bi : Binds X.K fd pn [])
    (out : ∀ σ, PassesAt CX X σ (EE σ)) (ha : PA X (e1 :: er) tr) (nd : (nm == ("__debug__" : Str)) = false := by decide)
    (t1 : starEach (e1 :: er) X.env = (false, eval e1 X.env) :: starEach er X.env := by rfl)
    (t2 : (backTo p2 (starEach er X.env)).any (·.1) = false := by rfl) :
    PE X (.Call (.Name nm p1) (e1 :: er) [] p2) (tMakeS cA sp EE tr) := by
  constructor
  intro pins s σ H Q I h
  refine wpAny_Call_Name_kw (ld_glob I hg hm (PySem.W.callWith_K (h₀ := X.base) I.ok.mod.kin M.kp ?_ t1 t2) nd)
  exact thn (ha.run p2 pins s σ H _ I h) fun us s1 ⟨vs, H1, I1, r, q⟩ => ⟨I1.kIn, mkS_run M F rm bi (out σ) I1 r q⟩
def tMethX (C : Addr) (m : Str) (sp : Sp) (E : St → XK) (ta : TE) (t : TA) : TE := fun σ H Q => ta σ H fun x H1 => ∃ a dx fs, x = .ref a ∧ H1 a = some (.ins C dx fs) ∧ fs.lookup m = none ∧
  t σ H1 fun vs H2 => sp (x :: vs) H2 Q (E σ)
theorem pe_methX {EE : St → XK} {pl : Sem Bool} (ho : PE X oe to') (c : Cls X.K cA) (hm : Meth X.K cA mm fa)
    (F : FnOk X.prog X.w X.K X.mg X.base CX lv fa fd pn sp) (rm : Room lv X.A) (bi : Binds X.K fd pn [])
    (out : ∀ σ, PassesAt CX X σ (EE σ)) (ha : PA X (e1 :: er) tr)
    (t1 : starEach (e1 :: er) X.env = (false, eval e1 X.env) :: starEach er X.env := by rfl)
    (t2 : (backTo p2 (starEach er X.env)).any (·.1) = false := by rfl)
    (ev : eval (.Call (.Attribute oe mm p3) (e1 :: er) [] p2) X.env = (do
      let ov ← eval oe X.env
      standAt p3.atName
      let (f, first) ← holding [ov] (getMethod ov mm pl)
      callWith p2 f first (backTo p2 (starEach (e1 :: er) X.env)) (backToKw p2 (keywordEach [] X.env))) := by rfl) :
    PE X (.Call (.Attribute oe mm p3) (e1 :: er) [] p2) (tMethX cA mm sp EE to' tr) := by
  constructor
  intro pins s σ H Q I h
  refine PySem.W.methodCall_KW (pl := pl) (thn (ho.run pins s σ H _ I h) fun u s1 got => ?_) ev
  obtain ⟨x, H1, I1, rx, a, dx, fs, rfl, ea, l, q⟩ := got
  cases (show u = Value.ref a from rx)
  refine getmeth_ok I1 ea c hm l (PySem.W.callWith_K (first := [.ref a]) (h₀ := X.base) I.ok.mod.kin hm.kp ?_ t1 t2)
  exact thn (ha.run p2 pins s1 σ H1 _ I1 q) fun us s2 ⟨vs, H2, I2, r, q2⟩ => ⟨I2.kIn, run_fnS (us := .ref a :: us) (vs := .ref a :: vs) F rm bi (out σ) I2 (.cons rfl r) q2⟩
end
end L2

set_option Elab.async false
set_option linter.all false
set_option maxRecDepth 100000
namespace L2
open PySem PySem.Spec PySem.Calls PyProof.Rows
/-! an own object without a == of its own, against an integer -/
theorem int_eq_declines_ins (b : Int) (u : Tok) (a C dx : Addr) :
    Meets (Builtin.«int.__eq__» ⟨[.int b u, .ref a], []⟩) (fun _ R s => s.heap.get? a = some (PySem.W.instObj C dx) ∧ R (.ok (.ret .notImplemented)) s) :=
  .of_wp fun prog w A R s h => by
    obtain ⟨hp, g, d, tk, os⟩ := s
    obtain ⟨hl, h⟩ := h
    unfold PySem.W.instObj at hl
    wp_walk using wpAny_loadPart' hl, wpAny_load hl
    exact ⟨_, rfl, h⟩
section
variable {prog : Program} {w : World} {A : Around} {E : Value → Shared → Prop} {s : Shared} {K : PySem.W.Frag} {x C dx : Addr} {od : Option Obj}
theorem ifBound_B {name : Str} {id : String} {args : List Value} {Q : Option Value → Shared → Prop} (X : K.In s.heap) (I : PySem.W.InstAt s.heap x (PySem.W.instObj C dx) C od)
    (hs : PySem.W.findIn K (.ref C) name = some (some (.builtin id))) (hb : ∀ self, bindSpecial (.builtin id) self = pure (.builtin id, [self]))
    (h : wpAny (model prog w) A (call (.builtin id) (.ref x :: args)) (fun v => Q (some v)) E s) : wpAny (model prog w) A (callSpecialIfBound? (.ref x) name args) Q E s := by
  simp only [callSpecialIfBound?, bindSpecialIfBound?]
  refine wpAny_holding (wpAny_bind (wpAny_bind (wpAny_bind (I.type.here ((PySem.W.looks_findIn X hs).here ?_)))))
  simp only [hb]
  refine wpAny_bind (wpAny_askSetting (wpAny_ite ?_))
  have fin : wpAny (model prog w) A (call (.builtin id) ([.ref x] ++ args) >>= fun v => pure (some v)) Q E s := wpAny_bind (wpAny_mono h (fun v s' h' => wpAny_pure h') fun _ _ h' => h')
  split
  · exact wpAny_bind (wpAny_pure (by exact wpAny_pure fin))
  · exact wpAny_tryCatch (wpAny_bind (wpAny_pure (by exact wpAny_pure fin)))
theorem call_objEq_int {n : Int} {t : Tok} {Q : Value → Shared → Prop} (X : K.In s.heap) (I : PySem.W.InstAt s.heap x (PySem.W.instObj C dx) C od)
    (ho : PySem.W.mroIn K C (.type "object") = some true) (hq : Q .notImplemented s) :
    wpAny (model prog w) A (call (.builtin "object.__eq__") [.ref x, .int n t]) Q E s := by
  refine wpAny_call (codeAny_call_builtin F.cmp_object.eq.plain F.cmpEntry_eq ?_)
  simp only [checkBuiltinCall, F.cmpKind_eq, F.cmpSplit_eq]
  refine wpAny_bind ?_
  unfold isInstance
  refine wpAny_bind (I.type.here ((PySem.W.looks_subIn (t := .ref C) X ho).here ?_))
  have body : wpAny (model prog w) A.in1 (Builtin.«object.__eq__» ⟨[.ref x, .int n t], []⟩) (fun fin s' => fin = .done (.ret .notImplemented) ∧ s' = s) E s := by
    unfold Builtin.«object.__eq__»
    have q : isSame (.ref x) (.int n t) = pure false := rfl
    repeat (first | rw [q] | wp_step)
    exact ⟨rfl, rfl⟩
  have fin : wpAny (model prog w) A.in1 (Builtin.«object.__eq__» ⟨[.ref x, .int n t], []⟩) (fun fin s' => match fin with
      | .done f => (match (Except.ok f : Result) with | .ok (.ret v) => Q v s' | .ok _ => False | .error e => E e s')
      | .again c' => c'.quiet = true ∧ codeAny (model prog w) A c' (fun r s' => match r with | .ok (.ret v) => Q v s' | .ok _ => False | .error e => E e s') s') (fun e s' => E e s') s :=
    wpAny_mono body (fun f s' h => by obtain ⟨rfl, rfl⟩ := h; exact hq) (fun _ _ e => e)
  cases hsig : Manifest.signature? "object.__eq__" with
  | none => exact wpAny_pure fin
  | some sig =>
    have ha := F.cmpArgs_eq (.ref x) (.int n t)
    simp only [argsOk, hsig] at ha
    have h2 : Bind.checkArgs "object.__eq__" sig ⟨[.ref x, .int n t], []⟩ = pure () := ha
    show wpAny (model prog w) A.in1 (Bind.checkArgs "object.__eq__" sig ⟨[.ref x, .int n t], []⟩) _ _ s
    rw [h2]
    exact wpAny_pure fin
theorem richCompare_inst_int {n : Int} {t : Tok} {Q : Value → Shared → Prop} (hu : A.units < cLine) (X : K.In s.heap) (I : PySem.W.InstAt s.heap x (PySem.W.instObj C dx) C od)
    (hs : PySem.W.findIn K (.ref C) "__eq__" = some (some (.builtin "object.__eq__"))) (ho : PySem.W.mroIn K C (.type "object") = some true)
    (hn : PySem.W.subIn K (.type "int") (.ref C) = some false) (hq : Q (.bool false) s) : wpAny (model prog w) A (richCompare .Eq (.ref x) (.int n t)) Q E s := by
  unfold richCompare
  simp only [oneThing_ref]
  refine wpAny_holding (wpAny_bind (wpAny_cRoomFor hu ?_))
  refine wpAny_bind (I.type.here (wpAny_bind (wpAny_typeOf (typeIs_int s n t) ?_)))
  have e1 : (Value.ref C != Value.type "int") = true := by rfl
  simp only [e1, if_true]
  refine wpAny_bind ((PySem.W.looks_subIn X hn).here ?_)
  simp only [Bool.false_eq_true, if_false, Bool.not_false, if_true]
  refine wpAny_bind (m := tryCompare (.ref x) _ (.int n t)) ?_
  unfold tryCompare
  refine wpAny_bind (ifBound_B X I hs F.cmp_object.eq.bind (call_objEq_int X I ho ?_))
  refine wpAny_pure ?_
  refine wpAny_bind (m := tryCompare (.int n t) _ (.ref x)) (wpAny_tryCompare_declines (typeIs_int s n t) F.slot_int_eq_refl (call_meets F.slot_int_eq_refl (typeIs_int s n t) F.entry_int_eq (F.args_int_eq_2 _ _) (int_eq_declines_ins n t x C dx) ⟨I.at_, rfl, ?_⟩))
  exact wpAny_bind (wpAny_rule (wpAny_bind (wpAny_of_eq (rfl : isSame (.ref x) (.int n t) = pure false) (wpAny_pure hq))))
end
structure ClsEq (K : PySem.W.Frag) (C : Addr) : Prop where
  eq : PySem.W.findIn K (.ref C) "__eq__" = some (some (.builtin "object.__eq__"))
  ob : PySem.W.mroIn K C (.type "object") = some true
  nt : PySem.W.subIn K (.type "int") (.ref C) = some false
section
variable {X : Cx}
def rEqOI (C : Addr) : R2 := fun x y H Q => ∃ (a dx : Addr) (fs : List (Str × V)) (i : Int), x = .ref a ∧ y = .int i ∧ H a = some (.ins C dx fs) ∧ Q (.bl false) H
theorem op_eqOI {C : Addr} (q : ClsEq X.K C) (hu : X.A.units < cLine) : OpR X (compareOp .Eq) (rEqOI C) := by
  intro pins s σ H x y v u Q I rx ry h
  obtain ⟨a, dx, fs, i, rfl, rfl, ha, hq⟩ := h
  cases (show v = Value.ref a from rx)
  obtain ⟨t, rfl⟩ := ry
  obtain ⟨mA, J, _⟩ := ins_get I.hok ha
  obtain ⟨od, J, _⟩ := J.look
  exact richCompare_inst_int hu I.kIn J q.eq q.ob q.nt ⟨.bl false, H, I, rfl, hq⟩
/-! ### len(set(xs)) for any ints -/
def distinct (ns : List Int) : Nat := (firstMet (fun i => ns.getD i 0) ns.length).length
theorem distinct_nodup {ns : List Int} (h : ns.Nodup) : distinct ns = ns.length := by
  unfold distinct
  rw [firstMet_nodup ns h ns.length (Nat.le_refl _), List.take_length]
theorem distinct_two {x : Int} : distinct [x, x] = 1 := by
  simp [distinct, firstMet, step_dedup, List.range_succ]
def tLenSetD (K : PySem.W.Frag) (ta : TE) : TE := fun σ H Q => ta σ H fun x H1 => ∃ (l : Addr) (ns : List Int), x = V.ref l ∧ SqL K H1 l (ns.map V.int) ∧ ns.length < 64 ∧ Q (.int (distinct ns)) H1
theorem pe_lenSetD {a : Expr} {ta : TE} {p p2 q pos : Pos} (hc : X.calm = true) (hg : Gl X "len") (hm : X.mg "len" = none) (hg2 : Gl X "set") (hm2 : X.mg "set" = none) (ha : PE X a ta)
    (na : starEach [a] X.env = (false, eval a X.env) :: starEach [] X.env := by rfl) : PE X (.Call (.Name "len" p) [.Call (.Name "set" p2) [a] [] q] [] pos) (tLenSetD X.K ta) := by
  refine ⟨fun pins s σ H Q I h => ?_⟩
  refine Call_ (ld_blt I hg hm PySem.boot_len ?_)
  refine PyProof.Rows.callWith_builtin1 (PyProof.Rows.args_cons ?_ rfl) rfl rfl
  refine Call_ (ld_blt I hg2 hm2 PyProof.Rows.boot_set ?_)
  refine PyProof.Rows.callWith_type1 (PyProof.Rows.args_cons (thn (ha.run pins s σ H _ I h) fun v s1 ⟨x, H1, I1, r1, q1⟩ => PyProof.Rows.args_nil ?_) na) na rfl
  obtain ⟨l, ns, rfl, hq, h1, q1⟩ := q1
  cases r1
  obtain ⟨its, r, pl, hz⟩ := I1.list hq
  have hl : its.toArray.size = ns.length := by rw [List.size_toArray, ← r.length, List.length_map]
  refine call_set_list (I1.ok.hd hc) pl.isList (ns := ns) (by simpa using r.ints) (by unfold scanBound; omega) fun h' tk hS hk => ?_
  rw [hl] at hS
  refine PyProof.Rows.args_nil ?_
  obtain ⟨o, es, ep, t, ho, hex, hd, _, _, _, hf, hn⟩ := hS
  have I2 : Inv X pins σ H1 { s1 with heap := h', toks := tk } := I1.kept fun b o e => hk b o (Heap.lt_size e) e
  have dl : (firstMet (fun i => ns.getD i 0) ns.length).length < 64 := Nat.lt_of_le_of_lt (firstMet_length_le _ _) h1
  refine call_len_set ho hex hd hf (by rw [hn] <;> omega) ⟨.int (distinct ns), H1, I2.tok _, ⟨_, by rw [hn]; rfl⟩, q1⟩
end
theorem for_enum {K : PySem.W.Frag} {a : Addr} {xs : List V} {g : TG} {tb : TS} {D : Ends} {σ : St} {H : Hp} (Pv : Nat → St → Hp → Prop) (h0 : Pv 0 σ H) (hl : ∀ i σ H, i ≤ xs.length → Pv i σ H → SqL K H a xs)
    (hs : ∀ (i : Nat) x T σ H, xs[i]? = some x → Pv i σ H → H T = none → g (.ref T) σ (upd H T (.tup [.int i, x])) fun σ2 H2 => tb { D with nx := Pv (i + 1), ct := Pv (i + 1), bk := D.nx } σ2 H2) (hd : ∀ σ H, Pv xs.length σ H → D.nx σ H) :
    ∃ W : Nat → Nat → St → Hp → Prop, (∃ m, W 0 m σ H) ∧ ∀ i m σ H, W i m σ H →
      ((Ite K a).stop i H ∧ D.nx σ H) ∨ ((Ite K a).go i H ∧ ∃ N : St → Hp → Prop, (∀ σ' H', N σ' H' → ∃ m', m' < m ∧ W (i + 1) m' σ' H') ∧ ∀ x H', (Ite K a).yld i H x H' → g x σ H' fun σ2 H2 => tb { D with nx := N, ct := N, bk := D.nx } σ2 H2) := by
  refine ⟨fun i m σ H => m = xs.length - i ∧ i ≤ xs.length ∧ Pv i σ H, ⟨xs.length, by simp, Nat.zero_le _, h0⟩, ?_⟩
  rintro i m σ H ⟨rfl, hi, p⟩
  have q := hl i σ H hi p
  by_cases hlt : i < xs.length
  · refine .inr ⟨⟨xs, xs[i], q, by simp [hlt]⟩, Pv (i + 1), fun σ' H' p' => ⟨xs.length - (i + 1), by omega, rfl, hlt, p'⟩, fun x H' y => ?_⟩
    obtain ⟨T, v, rfl, n, rfl, y⟩ := y
    exact hs i v T σ H (y xs q) p n
  · have e : i = xs.length := by omega
    subst e
    exact .inl ⟨⟨xs, q, Nat.le_refl _⟩, hd σ H p⟩
end L2

set_option Elab.async false
set_option linter.all false
set_option maxRecDepth 100000
namespace Rd
open PySem PySem.Spec PyProof.Rows L2
variable {K : PySem.W.Frag} {σ : L2.St} {H : Hp} {D : Ends} {Q : VK} {ta tb te tc : TE} {t u c : TT} {ts tu : TS} {g : TG} {x y v : V} {vs : List V} {tr : TA} {a b : Option V} {r : L2.St}
theorem seq (h : ts { D with nx := tu D } σ H) : tSeq ts tu D σ H := h
theorem next (h : D.nx σ H) : tNext D σ H := h
theorem brk (h : D.bk σ H) : tBreak D σ H := h
theorem cont (h : D.ct σ H) : tCont D σ H := h
theorem asg (h : te σ H fun x H1 => g x σ H1 D.nx) : tAsg te g D σ H := h
theorem ret (h : te σ H D.rt) : tRet te D σ H := h
theorem retN (h : D.rt .non H) : tRetN D σ H := h
theorem drop (h : te σ H fun _ H1 => D.nx σ H1) : tDrop te D σ H := h
theorem ifs (h : c σ H fun b H1 => if b = true then ts D σ H1 else tu D σ H1) : tIfS c ts tu D σ H := h
theorem ife (h : t σ H fun b H1 => if b = true then ta σ H1 Q else tb σ H1 Q) : tIf t ta tb σ H Q := h
theorem test {Q : Bool → Hp → Prop} (h : te σ H fun x H1 => ∃ k, x = .bl k ∧ Q k H1) : tTest te σ H Q := h
theorem tb_ {Q : Bool → Hp → Prop} (h : te σ H fun x H1 => ∃ k, x = .bl k ∧ Q k H1) : tB te σ H Q := h
theorem bl {b : Bool} {Q : Bool → Hp → Prop} (h : Q b H) : ∃ k, V.bl b = .bl k ∧ Q k H := ⟨b, rfl, h⟩
theorem bl2 {b : Bool} {P : Bool → Prop} (h : P b) : ∃ k, V.bl b = .bl k ∧ P k := ⟨b, rfl, h⟩
theorem and_ {Q : Bool → Hp → Prop} (h : t σ H fun c H1 => if c = true then u σ H1 Q else Q false H1) : tAnd t u σ H Q := h
theorem or_ {Q : Bool → Hp → Prop} (h : t σ H fun c H1 => if c = true then Q true H1 else u σ H1 Q) : tOr t u σ H Q := h
theorem not_ {Q : Bool → Hp → Prop} (h : t σ H fun c H1 => Q (!c) H1) : tNot t σ H Q := h
theorem andV (h : ta σ H fun x H1 => ∃ c, x = .bl c ∧ if c = true then tb σ H1 Q else Q (.bl false) H1) : tAndV ta tb σ H Q := h
theorem orV (h : ta σ H fun x H1 => ∃ c, x = .bl c ∧ if c = true then Q (.bl true) H1 else tb σ H1 Q) : tOrV ta tb σ H Q := h
theorem notV (h : ta σ H fun x H1 => ∃ c, x = .bl c ∧ Q (.bl (!c)) H1) : tNotV ta σ H Q := h
theorem op {r : R2} (h : ta σ H fun x H1 => tb σ H1 fun y H2 => r x y H2 Q) : tOp r ta tb σ H Q := h
theorem un {r : V → Hp → VK → Prop} (h : ta σ H fun x H1 => r x H1 Q) : tUn r ta σ H Q := h
theorem I0 {f : Int → Int → V} {i j : Int} (h : Q (f i j) H) : rI0 f (.int i) (.int j) H Q := ⟨i, j, rfl, rfl, h⟩
theorem I {C : Int → Int → Prop} {f : Int → Int → V} {i j : Int} (c : C i j) (h : Q (f i j) H) : rI C f (.int i) (.int j) H Q := ⟨i, j, rfl, rfl, c, h⟩
theorem U {f : Int → V} {i : Int} (h : Q (f i) H) : rU f (.int i) H Q := ⟨i, rfl, h⟩
theorem ip {f : Int → Int → Int} {i j : Int} (h : Q (.int (f i j)) H) : ipI f (.int i) (.int j) H Q := ⟨i, j, rfl, rfl, h⟩
theorem eq (s : scal x y = true) (h : Q (.bl (decide (x = y))) H) : rEq x y H Q := ⟨s, h⟩
theorem ne (s : scal x y = true) (h : Q (.bl (!decide (x = y))) H) : rNe x y H Q := ⟨s, h⟩
theorem c_ (h : Q v H) : tC v σ H Q := h
theorem nil {Q : List V → Hp → Prop} (h : Q [] H) : tNil σ H Q := h
theorem cons {Q : List V → Hp → Prop} (h : ta σ H fun x H1 => tr σ H1 fun xs H2 => Q (x :: xs) H2) : tCons ta tr σ H Q := h
theorem tup (h : tr σ H fun xs H1 => xs.length ≤ sizeLine ∧ ∀ p, H1 p = none → Q (.ref p) (upd H1 p (.tup xs))) : tTup tr σ H Q := h
theorem lst (h : tr σ H fun xs H1 => xs.length ≤ sizeLine ∧ ∀ p, H1 p = none → Q (.ref p) (upd H1 p (.lst xs))) : tLst tr σ H Q := h
theorem newT {xs : List V} (s : xs.length ≤ sizeLine) (h : ∀ p, H p = none → Q (.ref p) (upd H p (.tup xs))) : xs.length ≤ sizeLine ∧ ∀ p, H p = none → Q (.ref p) (upd H p (.tup xs)) := ⟨s, h⟩
theorem newL {xs : List V} (s : xs.length ≤ sizeLine) (h : ∀ p, H p = none → Q (.ref p) (upd H p (.lst xs))) : xs.length ≤ sizeLine ∧ ∀ p, H p = none → Q (.ref p) (upd H p (.lst xs)) := ⟨s, h⟩
theorem szA {xs : List V} {A : Prop} (s : xs.length ≤ sizeLine) (h : A) : xs.length ≤ sizeLine ∧ A := ⟨s, h⟩
theorem call {sp : Sp} {dvs : List V} {E : XK} (h : tr σ H fun vs H1 => sp (vs ++ dvs) H1 Q E) : tCall sp dvs E tr σ H Q := h
theorem cb {f : List V → Hp → VK → Prop} (h : tr σ H fun vs H1 => f vs H1 Q) : tCB f tr σ H Q := h
theorem bm {T : String} {f : V → List V → Hp → VK → Prop} (h : te σ H fun x H1 => tyV K T x H1 ∧ tr σ H1 fun xs H2 => f x xs H2 Q) : tBM K T f te tr σ H Q := h
theorem bm0 {T : String} {f : V → List V → Hp → VK → Prop} (h : te σ H fun x H1 => tyV K T x H1 ∧ f x [] H1 Q) : tBM0 K T f te σ H Q := h
theorem tyL {p : Addr} {xs : List V} {A : Prop} (s : H p = some (.lst xs)) (h : A) : tyV K "list" (.ref p) H ∧ A := ⟨.inl ⟨rfl, _, SqL.of s⟩, h⟩
theorem tyLq {p : Addr} {xs : List V} {A : Prop} (s : SqL K H p xs) (h : A) : tyV K "list" (.ref p) H ∧ A := ⟨.inl ⟨rfl, _, s⟩, h⟩
theorem tyS {z : Str} {A : Prop} (h : A) : tyV K "str" (.str z) H ∧ A := ⟨rfl, h⟩
theorem app {l : Addr} {xs : List V} (h : H l = some (.lst xs)) (s : xs.length < sizeLine) (q : Q .non (upd H l (.lst (xs ++ [y])))) : rAppend (.ref l) [y] H Q := ⟨l, xs, y, rfl, rfl, h, s, q⟩
theorem sl {f : V → Option Int → Option Int → Hp → VK → Prop} {tl th : TO} (h : te σ H fun x H1 => tl σ H1 fun l H2 => th σ H2 fun u H3 => f x l u H3 Q) : L2.tSl f te tl th σ H Q := h
theorem nopart {Q : Option Int → Hp → Prop} (h : Q none H) : tNoPart σ H Q := h
theorem part {Q : Option Int → Hp → Prop} (h : te σ H fun x H1 => ∃ i, x = .int i ∧ Q (some i) H1) : tPart te σ H Q := h
theorem int1 {i : Int} {P : Int → Prop} (h : P i) : ∃ j, V.int i = .int j ∧ P j := ⟨i, rfl, h⟩
theorem ints1 {i : Int} {P : Int → Prop} (h : P i) : ∃ j, [V.int i] = [.int j] ∧ P j := ⟨i, rfl, h⟩
theorem ints2 {i j : Int} {P : Int → Int → Prop} (h : P i j) : ∃ a b, [V.int i, V.int j] = [.int a, .int b] ∧ P a b := ⟨i, j, rfl, h⟩
theorem ixLq {p : Addr} {xs : List V} {i : Int} (h : SqL K H p xs) (e : atI xs i = some v) (q : Q v H) : rIxL K (.ref p) (.int i) H Q := ⟨p, xs, i, v, rfl, rfl, h, e, q⟩
theorem ixL {p : Addr} {xs : List V} {i : Int} (h : H p = some (.lst xs)) (e : atI xs i = some v) (q : Q v H) : rIxL K (.ref p) (.int i) H Q := ⟨p, xs, i, v, rfl, rfl, SqL.of h, e, q⟩
theorem ixT {p : Addr} {xs : List V} {i : Int} (h : H p = some (.tup xs)) (e : atI xs i = some v) (q : Q v H) : rIxT K (.ref p) (.int i) H Q := ⟨p, xs, i, v, rfl, rfl, SqT.of h, e, q⟩
theorem ixTq {p : Addr} {xs : List V} {i : Int} (h : SqT K H p xs) (e : atI xs i = some v) (q : Q v H) : rIxT K (.ref p) (.int i) H Q := ⟨p, xs, i, v, rfl, rfl, h, e, q⟩
theorem gtup {p : Addr} {xs : List V} {n : Nat} {f : TGs} {Q : L2.St → Hp → Prop} (h : H p = some (.tup xs)) (l : xs.length = n) (q : f xs σ H Q) : gTup K n f (.ref p) σ H Q := ⟨p, xs, rfl, SqT.of h, l, q⟩
theorem gtupq {p : Addr} {xs : List V} {n : Nat} {f : TGs} {Q : L2.St → Hp → Prop} (h : SqT K H p xs) (l : xs.length = n) (q : f xs σ H Q) : gTup K n f (.ref p) σ H Q := ⟨p, xs, rfl, h, l, q⟩
theorem yes {Q : Bool → Hp → Prop} (h : Q true H) : tYes σ H Q := h
theorem gcons {f : TGs} {Q : L2.St → Hp → Prop} (q : g v σ H fun σ' H' => f vs σ' H' Q) : gCons g f (v :: vs) σ H Q := ⟨v, vs, rfl, q⟩
theorem gnil {Q : L2.St → Hp → Prop} (q : Q σ H) : gNil [] σ H Q := ⟨rfl, q⟩
theorem sub {to ti : TE} {f : TSet} {Q : L2.St → Hp → Prop} (h : to σ H fun o H1 => ti σ H1 fun i H2 => f o i v H2 fun H3 => Q σ H3) : gSub to ti f v σ H Q := h
theorem setL {l : Addr} {xs : List V} {j : Nat} {i : Int} {Q : Hp → Prop} (h : H l = some (.lst xs)) (e : ixN xs.length i = some j) (q : Q (upd H l (.lst (xs.set j v)))) : rSetL (.ref l) (.int i) v H Q := ⟨l, xs, i, j, rfl, rfl, h, e, q⟩
theorem isN (h : ta σ H fun x H1 => Q (.bl (decide (x = .non))) H1) : tIsN ta σ H Q := h
theorem rf {α : Type} {a : α} {A : Prop} (h : A) : a = a ∧ A := ⟨rfl, h⟩
theorem sz {n : Nat} (h : n ≤ 100000) : n ≤ sizeLine := Nat.le_trans h (by decide)
theorem szl {n : Nat} (h : n < 100000) : n < sizeLine := Nat.lt_of_lt_of_le h (by decide)
theorem chain {r r' : R2} (h : ta σ H fun x H1 => tb σ H1 fun y H2 => r x y H2 fun z H3 => ∃ k, z = .bl k ∧ if k = true then tc σ H3 fun w H4 => r' y w H4 Q else Q (.bl false) H3) : tChain r r' ta tb tc σ H Q := h

theorem v0 (h : Q v H) : tVar 0 (some v :: r) H Q := ⟨v, rfl, h⟩
theorem n0 {Q : L2.St → Hp → Prop} (h : Q (some v :: r) H) : gName 0 v (a :: r) H Q := h
theorem g0 {ti : TIp} (h : te (some x :: r) H fun y H1 => ti x y H1 fun z H2 => D.nx (some z :: r) H2) : tAug 0 te ti D (some x :: r) H := ⟨x, rfl, h⟩
theorem v1 {a0 : Option V} (h : Q v H) : tVar 1 (a0 :: some v :: r) H Q := ⟨v, rfl, h⟩
theorem n1 {a0 : Option V} {Q : L2.St → Hp → Prop} (h : Q (a0 :: some v :: r) H) : gName 1 v (a0 :: a :: r) H Q := h
theorem g1 {a0 : Option V} {ti : TIp} (h : te (a0 :: some x :: r) H fun y H1 => ti x y H1 fun z H2 => D.nx (a0 :: some z :: r) H2) : tAug 1 te ti D (a0 :: some x :: r) H := ⟨x, rfl, h⟩
theorem v2 {a0 a1 : Option V} (h : Q v H) : tVar 2 (a0 :: a1 :: some v :: r) H Q := ⟨v, rfl, h⟩
theorem n2 {a0 a1 : Option V} {Q : L2.St → Hp → Prop} (h : Q (a0 :: a1 :: some v :: r) H) : gName 2 v (a0 :: a1 :: a :: r) H Q := h
theorem g2 {a0 a1 : Option V} {ti : TIp} (h : te (a0 :: a1 :: some x :: r) H fun y H1 => ti x y H1 fun z H2 => D.nx (a0 :: a1 :: some z :: r) H2) : tAug 2 te ti D (a0 :: a1 :: some x :: r) H := ⟨x, rfl, h⟩
theorem v3 {a0 a1 a2 : Option V} (h : Q v H) : tVar 3 (a0 :: a1 :: a2 :: some v :: r) H Q := ⟨v, rfl, h⟩
theorem n3 {a0 a1 a2 : Option V} {Q : L2.St → Hp → Prop} (h : Q (a0 :: a1 :: a2 :: some v :: r) H) : gName 3 v (a0 :: a1 :: a2 :: a :: r) H Q := h
theorem g3 {a0 a1 a2 : Option V} {ti : TIp} (h : te (a0 :: a1 :: a2 :: some x :: r) H fun y H1 => ti x y H1 fun z H2 => D.nx (a0 :: a1 :: a2 :: some z :: r) H2) : tAug 3 te ti D (a0 :: a1 :: a2 :: some x :: r) H := ⟨x, rfl, h⟩
theorem v4 {a0 a1 a2 a3 : Option V} (h : Q v H) : tVar 4 (a0 :: a1 :: a2 :: a3 :: some v :: r) H Q := ⟨v, rfl, h⟩
theorem n4 {a0 a1 a2 a3 : Option V} {Q : L2.St → Hp → Prop} (h : Q (a0 :: a1 :: a2 :: a3 :: some v :: r) H) : gName 4 v (a0 :: a1 :: a2 :: a3 :: a :: r) H Q := h
theorem g4 {a0 a1 a2 a3 : Option V} {ti : TIp} (h : te (a0 :: a1 :: a2 :: a3 :: some x :: r) H fun y H1 => ti x y H1 fun z H2 => D.nx (a0 :: a1 :: a2 :: a3 :: some z :: r) H2) : tAug 4 te ti D (a0 :: a1 :: a2 :: a3 :: some x :: r) H := ⟨x, rfl, h⟩
theorem v5 {a0 a1 a2 a3 a4 : Option V} (h : Q v H) : tVar 5 (a0 :: a1 :: a2 :: a3 :: a4 :: some v :: r) H Q := ⟨v, rfl, h⟩
theorem n5 {a0 a1 a2 a3 a4 : Option V} {Q : L2.St → Hp → Prop} (h : Q (a0 :: a1 :: a2 :: a3 :: a4 :: some v :: r) H) : gName 5 v (a0 :: a1 :: a2 :: a3 :: a4 :: a :: r) H Q := h
theorem g5 {a0 a1 a2 a3 a4 : Option V} {ti : TIp} (h : te (a0 :: a1 :: a2 :: a3 :: a4 :: some x :: r) H fun y H1 => ti x y H1 fun z H2 => D.nx (a0 :: a1 :: a2 :: a3 :: a4 :: some z :: r) H2) : tAug 5 te ti D (a0 :: a1 :: a2 :: a3 :: a4 :: some x :: r) H := ⟨x, rfl, h⟩
theorem v6 {a0 a1 a2 a3 a4 a5 : Option V} (h : Q v H) : tVar 6 (a0 :: a1 :: a2 :: a3 :: a4 :: a5 :: some v :: r) H Q := ⟨v, rfl, h⟩
theorem n6 {a0 a1 a2 a3 a4 a5 : Option V} {Q : L2.St → Hp → Prop} (h : Q (a0 :: a1 :: a2 :: a3 :: a4 :: a5 :: some v :: r) H) : gName 6 v (a0 :: a1 :: a2 :: a3 :: a4 :: a5 :: a :: r) H Q := h
theorem g6 {a0 a1 a2 a3 a4 a5 : Option V} {ti : TIp} (h : te (a0 :: a1 :: a2 :: a3 :: a4 :: a5 :: some x :: r) H fun y H1 => ti x y H1 fun z H2 => D.nx (a0 :: a1 :: a2 :: a3 :: a4 :: a5 :: some z :: r) H2) : tAug 6 te ti D (a0 :: a1 :: a2 :: a3 :: a4 :: a5 :: some x :: r) H := ⟨x, rfl, h⟩
theorem v7 {a0 a1 a2 a3 a4 a5 a6 : Option V} (h : Q v H) : tVar 7 (a0 :: a1 :: a2 :: a3 :: a4 :: a5 :: a6 :: some v :: r) H Q := ⟨v, rfl, h⟩
theorem n7 {a0 a1 a2 a3 a4 a5 a6 : Option V} {Q : L2.St → Hp → Prop} (h : Q (a0 :: a1 :: a2 :: a3 :: a4 :: a5 :: a6 :: some v :: r) H) : gName 7 v (a0 :: a1 :: a2 :: a3 :: a4 :: a5 :: a6 :: a :: r) H Q := h
theorem g7 {a0 a1 a2 a3 a4 a5 a6 : Option V} {ti : TIp} (h : te (a0 :: a1 :: a2 :: a3 :: a4 :: a5 :: a6 :: some x :: r) H fun y H1 => ti x y H1 fun z H2 => D.nx (a0 :: a1 :: a2 :: a3 :: a4 :: a5 :: a6 :: some z :: r) H2) : tAug 7 te ti D (a0 :: a1 :: a2 :: a3 :: a4 :: a5 :: a6 :: some x :: r) H := ⟨x, rfl, h⟩
theorem v8 {a0 a1 a2 a3 a4 a5 a6 a7 : Option V} (h : Q v H) : tVar 8 (a0 :: a1 :: a2 :: a3 :: a4 :: a5 :: a6 :: a7 :: some v :: r) H Q := ⟨v, rfl, h⟩
theorem n8 {a0 a1 a2 a3 a4 a5 a6 a7 : Option V} {Q : L2.St → Hp → Prop} (h : Q (a0 :: a1 :: a2 :: a3 :: a4 :: a5 :: a6 :: a7 :: some v :: r) H) : gName 8 v (a0 :: a1 :: a2 :: a3 :: a4 :: a5 :: a6 :: a7 :: a :: r) H Q := h
theorem g8 {a0 a1 a2 a3 a4 a5 a6 a7 : Option V} {ti : TIp} (h : te (a0 :: a1 :: a2 :: a3 :: a4 :: a5 :: a6 :: a7 :: some x :: r) H fun y H1 => ti x y H1 fun z H2 => D.nx (a0 :: a1 :: a2 :: a3 :: a4 :: a5 :: a6 :: a7 :: some z :: r) H2) : tAug 8 te ti D (a0 :: a1 :: a2 :: a3 :: a4 :: a5 :: a6 :: a7 :: some x :: r) H := ⟨x, rfl, h⟩
theorem v9 {a0 a1 a2 a3 a4 a5 a6 a7 a8 : Option V} (h : Q v H) : tVar 9 (a0 :: a1 :: a2 :: a3 :: a4 :: a5 :: a6 :: a7 :: a8 :: some v :: r) H Q := ⟨v, rfl, h⟩
theorem n9 {a0 a1 a2 a3 a4 a5 a6 a7 a8 : Option V} {Q : L2.St → Hp → Prop} (h : Q (a0 :: a1 :: a2 :: a3 :: a4 :: a5 :: a6 :: a7 :: a8 :: some v :: r) H) : gName 9 v (a0 :: a1 :: a2 :: a3 :: a4 :: a5 :: a6 :: a7 :: a8 :: a :: r) H Q := h
theorem g9 {a0 a1 a2 a3 a4 a5 a6 a7 a8 : Option V} {ti : TIp} (h : te (a0 :: a1 :: a2 :: a3 :: a4 :: a5 :: a6 :: a7 :: a8 :: some x :: r) H fun y H1 => ti x y H1 fun z H2 => D.nx (a0 :: a1 :: a2 :: a3 :: a4 :: a5 :: a6 :: a7 :: a8 :: some z :: r) H2) : tAug 9 te ti D (a0 :: a1 :: a2 :: a3 :: a4 :: a5 :: a6 :: a7 :: a8 :: some x :: r) H := ⟨x, rfl, h⟩
theorem v10 {a0 a1 a2 a3 a4 a5 a6 a7 a8 a9 : Option V} (h : Q v H) : tVar 10 (a0 :: a1 :: a2 :: a3 :: a4 :: a5 :: a6 :: a7 :: a8 :: a9 :: some v :: r) H Q := ⟨v, rfl, h⟩
theorem n10 {a0 a1 a2 a3 a4 a5 a6 a7 a8 a9 : Option V} {Q : L2.St → Hp → Prop} (h : Q (a0 :: a1 :: a2 :: a3 :: a4 :: a5 :: a6 :: a7 :: a8 :: a9 :: some v :: r) H) : gName 10 v (a0 :: a1 :: a2 :: a3 :: a4 :: a5 :: a6 :: a7 :: a8 :: a9 :: a :: r) H Q := h
theorem g10 {a0 a1 a2 a3 a4 a5 a6 a7 a8 a9 : Option V} {ti : TIp} (h : te (a0 :: a1 :: a2 :: a3 :: a4 :: a5 :: a6 :: a7 :: a8 :: a9 :: some x :: r) H fun y H1 => ti x y H1 fun z H2 => D.nx (a0 :: a1 :: a2 :: a3 :: a4 :: a5 :: a6 :: a7 :: a8 :: a9 :: some z :: r) H2) : tAug 10 te ti D (a0 :: a1 :: a2 :: a3 :: a4 :: a5 :: a6 :: a7 :: a8 :: a9 :: some x :: r) H := ⟨x, rfl, h⟩
theorem v11 {a0 a1 a2 a3 a4 a5 a6 a7 a8 a9 a10 : Option V} (h : Q v H) : tVar 11 (a0 :: a1 :: a2 :: a3 :: a4 :: a5 :: a6 :: a7 :: a8 :: a9 :: a10 :: some v :: r) H Q := ⟨v, rfl, h⟩
theorem n11 {a0 a1 a2 a3 a4 a5 a6 a7 a8 a9 a10 : Option V} {Q : L2.St → Hp → Prop} (h : Q (a0 :: a1 :: a2 :: a3 :: a4 :: a5 :: a6 :: a7 :: a8 :: a9 :: a10 :: some v :: r) H) : gName 11 v (a0 :: a1 :: a2 :: a3 :: a4 :: a5 :: a6 :: a7 :: a8 :: a9 :: a10 :: a :: r) H Q := h
theorem g11 {a0 a1 a2 a3 a4 a5 a6 a7 a8 a9 a10 : Option V} {ti : TIp} (h : te (a0 :: a1 :: a2 :: a3 :: a4 :: a5 :: a6 :: a7 :: a8 :: a9 :: a10 :: some x :: r) H fun y H1 => ti x y H1 fun z H2 => D.nx (a0 :: a1 :: a2 :: a3 :: a4 :: a5 :: a6 :: a7 :: a8 :: a9 :: a10 :: some z :: r) H2) : tAug 11 te ti D (a0 :: a1 :: a2 :: a3 :: a4 :: a5 :: a6 :: a7 :: a8 :: a9 :: a10 :: some x :: r) H := ⟨x, rfl, h⟩
theorem v12 {a0 a1 a2 a3 a4 a5 a6 a7 a8 a9 a10 a11 : Option V} (h : Q v H) : tVar 12 (a0 :: a1 :: a2 :: a3 :: a4 :: a5 :: a6 :: a7 :: a8 :: a9 :: a10 :: a11 :: some v :: r) H Q := ⟨v, rfl, h⟩
theorem n12 {a0 a1 a2 a3 a4 a5 a6 a7 a8 a9 a10 a11 : Option V} {Q : L2.St → Hp → Prop} (h : Q (a0 :: a1 :: a2 :: a3 :: a4 :: a5 :: a6 :: a7 :: a8 :: a9 :: a10 :: a11 :: some v :: r) H) : gName 12 v (a0 :: a1 :: a2 :: a3 :: a4 :: a5 :: a6 :: a7 :: a8 :: a9 :: a10 :: a11 :: a :: r) H Q := h
theorem g12 {a0 a1 a2 a3 a4 a5 a6 a7 a8 a9 a10 a11 : Option V} {ti : TIp} (h : te (a0 :: a1 :: a2 :: a3 :: a4 :: a5 :: a6 :: a7 :: a8 :: a9 :: a10 :: a11 :: some x :: r) H fun y H1 => ti x y H1 fun z H2 => D.nx (a0 :: a1 :: a2 :: a3 :: a4 :: a5 :: a6 :: a7 :: a8 :: a9 :: a10 :: a11 :: some z :: r) H2) : tAug 12 te ti D (a0 :: a1 :: a2 :: a3 :: a4 :: a5 :: a6 :: a7 :: a8 :: a9 :: a10 :: a11 :: some x :: r) H := ⟨x, rfl, h⟩
theorem v13 {a0 a1 a2 a3 a4 a5 a6 a7 a8 a9 a10 a11 a12 : Option V} (h : Q v H) : tVar 13 (a0 :: a1 :: a2 :: a3 :: a4 :: a5 :: a6 :: a7 :: a8 :: a9 :: a10 :: a11 :: a12 :: some v :: r) H Q := ⟨v, rfl, h⟩
theorem n13 {a0 a1 a2 a3 a4 a5 a6 a7 a8 a9 a10 a11 a12 : Option V} {Q : L2.St → Hp → Prop} (h : Q (a0 :: a1 :: a2 :: a3 :: a4 :: a5 :: a6 :: a7 :: a8 :: a9 :: a10 :: a11 :: a12 :: some v :: r) H) : gName 13 v (a0 :: a1 :: a2 :: a3 :: a4 :: a5 :: a6 :: a7 :: a8 :: a9 :: a10 :: a11 :: a12 :: a :: r) H Q := h
theorem g13 {a0 a1 a2 a3 a4 a5 a6 a7 a8 a9 a10 a11 a12 : Option V} {ti : TIp} (h : te (a0 :: a1 :: a2 :: a3 :: a4 :: a5 :: a6 :: a7 :: a8 :: a9 :: a10 :: a11 :: a12 :: some x :: r) H fun y H1 => ti x y H1 fun z H2 => D.nx (a0 :: a1 :: a2 :: a3 :: a4 :: a5 :: a6 :: a7 :: a8 :: a9 :: a10 :: a11 :: a12 :: some z :: r) H2) : tAug 13 te ti D (a0 :: a1 :: a2 :: a3 :: a4 :: a5 :: a6 :: a7 :: a8 :: a9 :: a10 :: a11 :: a12 :: some x :: r) H := ⟨x, rfl, h⟩
theorem v14 {a0 a1 a2 a3 a4 a5 a6 a7 a8 a9 a10 a11 a12 a13 : Option V} (h : Q v H) : tVar 14 (a0 :: a1 :: a2 :: a3 :: a4 :: a5 :: a6 :: a7 :: a8 :: a9 :: a10 :: a11 :: a12 :: a13 :: some v :: r) H Q := ⟨v, rfl, h⟩
theorem n14 {a0 a1 a2 a3 a4 a5 a6 a7 a8 a9 a10 a11 a12 a13 : Option V} {Q : L2.St → Hp → Prop} (h : Q (a0 :: a1 :: a2 :: a3 :: a4 :: a5 :: a6 :: a7 :: a8 :: a9 :: a10 :: a11 :: a12 :: a13 :: some v :: r) H) : gName 14 v (a0 :: a1 :: a2 :: a3 :: a4 :: a5 :: a6 :: a7 :: a8 :: a9 :: a10 :: a11 :: a12 :: a13 :: a :: r) H Q := h
theorem g14 {a0 a1 a2 a3 a4 a5 a6 a7 a8 a9 a10 a11 a12 a13 : Option V} {ti : TIp} (h : te (a0 :: a1 :: a2 :: a3 :: a4 :: a5 :: a6 :: a7 :: a8 :: a9 :: a10 :: a11 :: a12 :: a13 :: some x :: r) H fun y H1 => ti x y H1 fun z H2 => D.nx (a0 :: a1 :: a2 :: a3 :: a4 :: a5 :: a6 :: a7 :: a8 :: a9 :: a10 :: a11 :: a12 :: a13 :: some z :: r) H2) : tAug 14 te ti D (a0 :: a1 :: a2 :: a3 :: a4 :: a5 :: a6 :: a7 :: a8 :: a9 :: a10 :: a11 :: a12 :: a13 :: some x :: r) H := ⟨x, rfl, h⟩
theorem v15 {a0 a1 a2 a3 a4 a5 a6 a7 a8 a9 a10 a11 a12 a13 a14 : Option V} (h : Q v H) : tVar 15 (a0 :: a1 :: a2 :: a3 :: a4 :: a5 :: a6 :: a7 :: a8 :: a9 :: a10 :: a11 :: a12 :: a13 :: a14 :: some v :: r) H Q := ⟨v, rfl, h⟩
theorem n15 {a0 a1 a2 a3 a4 a5 a6 a7 a8 a9 a10 a11 a12 a13 a14 : Option V} {Q : L2.St → Hp → Prop} (h : Q (a0 :: a1 :: a2 :: a3 :: a4 :: a5 :: a6 :: a7 :: a8 :: a9 :: a10 :: a11 :: a12 :: a13 :: a14 :: some v :: r) H) : gName 15 v (a0 :: a1 :: a2 :: a3 :: a4 :: a5 :: a6 :: a7 :: a8 :: a9 :: a10 :: a11 :: a12 :: a13 :: a14 :: a :: r) H Q := h
theorem g15 {a0 a1 a2 a3 a4 a5 a6 a7 a8 a9 a10 a11 a12 a13 a14 : Option V} {ti : TIp} (h : te (a0 :: a1 :: a2 :: a3 :: a4 :: a5 :: a6 :: a7 :: a8 :: a9 :: a10 :: a11 :: a12 :: a13 :: a14 :: some x :: r) H fun y H1 => ti x y H1 fun z H2 => D.nx (a0 :: a1 :: a2 :: a3 :: a4 :: a5 :: a6 :: a7 :: a8 :: a9 :: a10 :: a11 :: a12 :: a13 :: a14 :: some z :: r) H2) : tAug 15 te ti D (a0 :: a1 :: a2 :: a3 :: a4 :: a5 :: a6 :: a7 :: a8 :: a9 :: a10 :: a11 :: a12 :: a13 :: a14 :: some x :: r) H := ⟨x, rfl, h⟩
theorem room65 {k : Nat} {A : Around} (r : Room k A) : A.units + 65 < cLine := by
  have := r.un
  omega
/-! ### iterators -/
def lcRest (g : TG) (tt : TT) (te : TE) (vs : List Nat) (σ : L2.St) (Q : VK) (J : It) (H1 : Hp) : Prop := ∀ D, H1 D = none → ∃ W : Nat → Nat → Hp → Prop, (∃ m, W 0 m (upd H1 D (.lst []))) ∧ ∀ i m H, W i m H →
  (J.stop i H ∧ Q (.ref D) H) ∨ (J.go i H ∧ ∃ Nx : Hp → Prop, (∀ H', Nx H' → ∃ m', m' < m ∧ W (i + 1) m' H') ∧ ∀ x H', J.yld i H x H' → g x (wipe σ vs) H' fun σ2 H2 => wipe σ2 vs = wipe σ vs ∧ tt σ2 H2 fun b H3 =>
    if b = true then te σ2 H3 fun y H4 => ∃ acc, H4 D = some (.lst acc) ∧ acc.length < sizeLine ∧ Nx (upd H4 D (.lst (acc ++ [y]))) else Nx H3)
theorem lc {wi : TI} {tt : TT} {ws : List Nat} (h : wi σ H (lcRest g tt te ws σ Q)) : tLc wi g tt te ws σ H Q := h
def forRest (g : TG) (tb : TS) (D : Ends) (σ0 : L2.St) (J : It) (H1 : Hp) : Prop := ∃ W : Nat → Nat → L2.St → Hp → Prop, (∃ m, W 0 m σ0 H1) ∧ ∀ i m σ H, W i m σ H →
  (J.stop i H ∧ D.nx σ H) ∨ (J.go i H ∧ ∃ N : L2.St → Hp → Prop, (∀ σ' H', N σ' H' → ∃ m', m' < m ∧ W (i + 1) m' σ' H') ∧ ∀ x H', J.yld i H x H' → g x σ H' fun σ2 H2 => tb { D with nx := N, ct := N, bk := D.nx } σ2 H2)
theorem for_ {wi : TI} {tb : TS} (h : wi σ H (forRest g tb D σ)) : tFor wi g tb D σ H := h
variable {R : It → Hp → Prop}
theorem ilist (h : te σ H fun x H1 => ∃ a, x = .ref a ∧ (∃ xs, SqL K H1 a xs) ∧ R (Itl K a) H1) : iList K te σ H R := h
theorem itup (h : te σ H fun x H1 => ∃ a, x = .ref a ∧ (∃ xs, SqT K H1 a xs) ∧ R (Itt K a) H1) : iTup K te σ H R := h
theorem irng1 (h : tr σ H fun vs H1 => ∃ j : Int, vs = [.int j] ∧ -(2 ^ 62) ≤ j ∧ j < 2 ^ 62 ∧ R (Itr 0 j.toNat) H1) : iRng1 tr σ H R := h
theorem irng2 (h : tr σ H fun vs H1 => ∃ i j : Int, vs = [.int i, .int j] ∧ (-(2 ^ 62) ≤ i ∧ i < 2 ^ 62 ∧ -(2 ^ 62) ≤ j ∧ j < 2 ^ 62) ∧ R (Itr i (j - i).toNat) H1) : iRng2 tr σ H R := h
theorem ienum (h : tr σ H fun vs H1 => ∃ a xs, vs = [.ref a] ∧ SqL K H1 a xs ∧ R (Ite K a) H1) : iEnum K tr σ H R := h
theorem istr (h : te σ H fun v H1 => ∃ x, v = .str x ∧ R (Its x) H1) : iStr te σ H R := h
theorem refA {a : Addr} {P : Addr → Prop} (h : P a) : ∃ b, V.ref a = .ref b ∧ P b := ⟨a, rfl, h⟩
theorem strA {a : Str} {P : Str → Prop} (h : P a) : ∃ b, V.str a = .str b ∧ P b := ⟨a, rfl, h⟩
theorem sqA {l : Addr} {xs : List V} {A : Prop} (h : H l = some (.lst xs)) (q : A) : (∃ xs, SqL K H l xs) ∧ A := ⟨⟨_, SqL.of h⟩, q⟩
theorem sqAq {l : Addr} {xs : List V} {A : Prop} (h : SqL K H l xs) (q : A) : (∃ xs, SqL K H l xs) ∧ A := ⟨⟨_, h⟩, q⟩
theorem stA {l : Addr} {xs : List V} {A : Prop} (h : H l = some (.tup xs)) (q : A) : (∃ xs, SqT K H l xs) ∧ A := ⟨⟨_, SqT.of h⟩, q⟩
theorem stAq {l : Addr} {xs : List V} {A : Prop} (h : SqT K H l xs) (q : A) : (∃ xs, SqT K H l xs) ∧ A := ⟨⟨_, h⟩, q⟩
theorem enA {l : Addr} {xs : List V} {P : Addr → Prop} (h : H l = some (.lst xs)) (q : P l) : ∃ a ys, [V.ref l] = [.ref a] ∧ SqL K H a ys ∧ P a := ⟨l, xs, rfl, SqL.of h, q⟩
theorem enAq {l : Addr} {xs : List V} {P : Addr → Prop} (h : SqL K H l xs) (q : P l) : ∃ a ys, [V.ref l] = [.ref a] ∧ SqL K H a ys ∧ P a := ⟨l, xs, rfl, h, q⟩
theorem lenL {l : Addr} {xs : List V} {P : List V → Prop} (h : H l = some (.lst xs)) (q : P xs) : ∃ p ys, [V.ref l] = [.ref p] ∧ (SqL K H p ys ∨ SqT K H p ys) ∧ P ys := ⟨l, xs, rfl, .inl (SqL.of h), q⟩
theorem lenLq {l : Addr} {xs : List V} {P : List V → Prop} (h : SqL K H l xs) (q : P xs) : ∃ p ys, [V.ref l] = [.ref p] ∧ (SqL K H p ys ∨ SqT K H p ys) ∧ P ys := ⟨l, xs, rfl, .inl h, q⟩
theorem lenTq {l : Addr} {xs : List V} {P : List V → Prop} (h : SqT K H l xs) (q : P xs) : ∃ p ys, [V.ref l] = [.ref p] ∧ (SqL K H p ys ∨ SqT K H p ys) ∧ P ys := ⟨l, xs, rfl, .inr h, q⟩
theorem lenT {l : Addr} {xs : List V} {P : List V → Prop} (h : H l = some (.tup xs)) (q : P xs) : ∃ p ys, [V.ref l] = [.ref p] ∧ (SqL K H p ys ∨ SqT K H p ys) ∧ P ys := ⟨l, xs, rfl, .inr (SqT.of h), q⟩
/-! ### comprehensions: each element by a relation -/
def But (D : Addr) (H H' : Hp) : Prop := ∀ b o, b ≠ D → H b = some o → H' b = some o
theorem But.refl {D : Addr} : But D H H := fun _ _ _ h => h
theorem But.trans {D : Addr} {H H1 H2 : Hp} (a : But D H H1) (b : But D H1 H2) : But D H H2 := fun x o n h => b x o n (a x o n h)
theorem But.same {D : Addr} {H H1 : Hp} (a : Same H H1) : But D H H1 := fun x o _ h => a x o h
theorem But.at_ {D : Addr} {o : HO} : But D H (upd H D o) := fun x u n h => by rw [upd_ne n]; exact h
theorem But.to {D : Addr} {H H1 : Hp} (a : But D H H1) (n : H D = none) : Same H H1 := fun x o h => a x o (fun z => by rw [z, n] at h; cases h) h
theorem lc_rel {J : It} {n : Nat} {G : Hp → Prop} {Y : Nat → Hp → V → Hp → Prop} (w : Walk J n G Y) {g : TG} {te : TE} {vs : List Nat} {σ : L2.St} {H1 : Hp} {D : Addr} {Qd : Hp → Prop} (R : Nat → V → Hp → Prop)
    (nD : H1 D = none) (hn : n ≤ 100000) (mono : ∀ i v H H', R i v H → But D H H' → R i v H') (hG : ∀ H, But D H1 H → G H)
    (hs : ∀ i x H H' (Kt : VK), i < n → But D H1 H → (∃ xs, H D = some (.lst xs)) → Y i H x H' → (∀ y H4, R i y H4 → Same H H4 → Kt y H4) → g x (wipe σ vs) H' fun σ2 H2 => wipe σ2 vs = wipe σ vs ∧ te σ2 H2 Kt)
    (hd : ∀ H ys, ys.length = n → (∀ i v, ys[i]? = some v → R i v H) → Same H1 H → H D = some (.lst ys) → Qd H) :
    ∃ W : Nat → Nat → Hp → Prop, (∃ m, W 0 m (upd H1 D (.lst []))) ∧ ∀ i m H, W i m H →
      (J.stop i H ∧ Qd H) ∨ (J.go i H ∧ ∃ Nx : Hp → Prop, (∀ H', Nx H' → ∃ m', m' < m ∧ W (i + 1) m' H') ∧ ∀ x H', J.yld i H x H' → g x (wipe σ vs) H' fun σ2 H2 => wipe σ2 vs = wipe σ vs ∧ tYes σ2 H2 fun b H3 =>
        if b = true then te σ2 H3 fun y H4 => ∃ acc, H4 D = some (.lst acc) ∧ acc.length < sizeLine ∧ Nx (upd H4 D (.lst (acc ++ [y]))) else Nx H3) := by
  refine lc_it w (fun i H => ∃ ys, ys.length = i ∧ (∀ i v, ys[i]? = some v → R i v H) ∧ But D H1 H ∧ H D = some (.lst ys)) ⟨[], rfl, fun i v h => by simp at h, But.at_, upd_same⟩ (fun i H _ h => ?_) (fun i x H H' hi h y => ?_) (fun H h => ?_)
  · obtain ⟨_, _, _, b, _⟩ := h
    exact hG H b
  · obtain ⟨ys, hl, hr, b, hD⟩ := h
    refine hs i x H H' _ hi b ⟨_, hD⟩ y fun v H4 r sm => ?_
    refine ⟨ys, sm _ _ hD, szl (by omega), ys ++ [v], by simp [hl], fun j u hj => ?_, (b.trans (But.same sm)).trans But.at_, upd_same⟩
    by_cases hj2 : j < ys.length
    · rw [List.getElem?_append_left hj2] at hj
      exact mono _ _ _ _ (hr j u hj) ((But.same sm).trans But.at_)
    · have e : j = ys.length := by
        have := (List.getElem?_eq_some_iff.mp hj).1
        simp at this; omega
      subst e
      rw [List.getElem?_append_right (Nat.le_refl _)] at hj
      simp at hj
      subst hj
      rw [hl]
      exact mono _ _ _ _ r But.at_
  · obtain ⟨ys, hl, hr, b, hD⟩ := h
    exact hd H ys hl hr (b.to nD) hD
/-! ### tests, ints in lists -/
theorem ifD {p : Prop} [Decidable p] {A B : Prop} (h1 : p → A) (h2 : ¬ p → B) : if decide p = true then A else B := by
  by_cases h : p
  · rw [decide_eq_true h, if_pos rfl]; exact h1 h
  · rw [decide_eq_false h, if_neg Bool.false_ne_true]; exact h2 h
theorem ifN {p : Prop} [Decidable p] {A B : Prop} (h1 : ¬ p → A) (h2 : p → B) : if (!decide p) = true then A else B := by
  by_cases h : p
  · rw [decide_eq_true h, if_neg (by decide)]; exact h2 h
  · rw [decide_eq_false h, if_pos (by decide)]; exact h1 h
theorem ifT {A B : Prop} (h : A) : if true = true then A else B := by rw [if_pos rfl]; exact h
theorem ifF {A B : Prop} (h : B) : if false = true then A else B := by rw [if_neg Bool.false_ne_true]; exact h
theorem ifB {b : Bool} {A B : Prop} (h1 : b = true → A) (h2 : b = false → B) : if b = true then A else B := by
  cases b with
  | true => exact ifT (h1 rfl)
  | false => exact ifF (h2 rfl)
theorem ifNB {b : Bool} {A B : Prop} (h1 : b = false → A) (h2 : b = true → B) : if (!b) = true then A else B := by
  cases b with
  | true => exact ifF (h2 rfl)
  | false => exact ifT (h1 rfl)
theorem flat_ints (ns : List Int) : (ns.map V.int).all flatV = true := by
  rw [List.all_eq_true]
  intro x hx
  obtain ⟨i, _, rfl⟩ := List.mem_map.mp hx
  rfl
theorem flat_strs (ns : List Str) : (ns.map V.str).all flatV = true := by
  rw [List.all_eq_true]
  intro x hx
  obtain ⟨i, _, rfl⟩ := List.mem_map.mp hx
  rfl
theorem eqV_ints (a b : Int) : eqV (.int a) (.int b) = decide (a = b) := by
  by_cases h : a = b <;> simp [eqV, h]
theorem inV_ints (x : Int) (r : List Int) : inV (.int x) (r.map V.int) = decide (x ∈ r) := by
  unfold inV
  rw [List.any_map]
  by_cases h : x ∈ r
  · rw [decide_eq_true h, List.any_eq_true]
    exact ⟨x, h, beq_self_eq_true x⟩
  · rw [decide_eq_false h, List.any_eq_false]
    intro y hy e
    have e2 : (y == x) = true := e
    exact h (by rw [← eq_of_beq e2]; exact hy)
theorem first_at (ns : List Int) (n : Int) (h : n ∈ ns) : ∃ j : Nat, ns[j]? = some n ∧ ∀ i, i < j → ns[i]? ≠ some n := by
  induction ns with
  | nil => simp at h
  | cons a r ih =>
    by_cases e : a = n
    · exact ⟨0, by simp [e], fun i hi => absurd hi (Nat.not_lt_zero _)⟩
    · obtain ⟨j, h1, h2⟩ := ih ((List.mem_cons.mp h).resolve_left fun z => e z.symm)
      refine ⟨j + 1, by simpa using h1, fun i hi => ?_⟩
      cases i with
      | zero => simp [e]
      | succ i => simpa using h2 i (by omega)
theorem inI {p : Addr} {ns : List Int} {n : Int} (h : H p = some (.lst (ns.map V.int))) (q : Q (.bl (decide (n ∈ ns))) H) : rIn K false (.int n) (.ref p) H Q :=
  ⟨p, _, rfl, .inl (SqL.of h), rfl, flat_ints _, by rw [inV_ints]; exact q⟩
theorem ninI {p : Addr} {ns : List Int} {n : Int} (h : H p = some (.lst (ns.map V.int))) (q : Q (.bl (!decide (n ∈ ns))) H) : rIn K true (.int n) (.ref p) H Q :=
  ⟨p, _, rfl, .inl (SqL.of h), rfl, flat_ints _, by rw [inV_ints]; exact q⟩
theorem idxI {a : Addr} {ns : List Int} {n : Int} {j : Nat} (h : H a = some (.lst (ns.map V.int))) (hj : ns[j]? = some n) (hf : ∀ i, i < j → ns[i]? ≠ some n) (q : Q (.int (j : Nat)) H) : rIndex K (.ref a) [.int n] H Q :=
  ⟨a, _, _, j, .int n, rfl, rfl, SqL.of h, rfl, flat_ints _, by rw [List.getElem?_map, hj]; rfl, by rw [eqV_ints, decide_eq_true rfl], fun m z' hm hz => by
    rw [List.getElem?_map] at hz
    cases e : ns[m]? with
    | none => rw [e] at hz; cases hz
    | some x =>
      rw [e] at hz; cases hz
      rw [eqV_ints]
      exact decide_eq_false fun e2 => hf m hm (by rw [e, e2]), q⟩
theorem vals_map {n : Nat} {ns : List V} (f : Nat → Int) (ln : ns.length = n) (hn : ∀ (i : Nat) v, ns[i]? = some v → v = .int (f i)) : ns = ((List.range n).map f).map V.int := by
  refine List.ext_getElem? fun i => ?_
  rw [List.map_map, List.getElem?_map]
  by_cases hi : i < n
  · obtain ⟨v, hv⟩ : ∃ v, ns[i]? = some v := ⟨_, List.getElem?_eq_getElem (by omega)⟩
    rw [hv, List.getElem?_range hi, hn i v hv]
    rfl
  · rw [List.getElem?_eq_none (by omega), List.getElem?_eq_none (by rw [List.length_range]; omega)]
    rfl
theorem at_int {ns : List Int} {i : Int} {j : Nat} {n : Int} (e : i = (j : Int)) (h : ns[j]? = some n) : atI (ns.map V.int) i = some (.int n) := by
  subst e
  exact atI_nat (by rw [List.getElem?_map, h]; rfl)
theorem at_val {xs : List V} {i : Int} {j : Nat} (e : i = (j : Int)) (h : xs[j]? = some v) : atI xs i = some v := by
  subst e
  exact atI_nat h
theorem zr {i : Nat} {H H' : Hp} (y : YFn (fun (i : Nat) => V.int ((0 : Int) + (i : Int))) i H x H') : x = .int (i : Int) ∧ H' = H := by
  obtain ⟨a, b⟩ := y
  exact ⟨by rw [b]; show V.int (0 + (i : Int)) = _; rw [Int.zero_add], a⟩
/-! ### new objects, by what they leave -/
def NewT (Q : VK) (xs : List V) (H : Hp) : Prop := xs.length ≤ sizeLine ∧ ∀ p, H p = none → Q (.ref p) (upd H p (.tup xs))
def NewL (Q : VK) (xs : List V) (H : Hp) : Prop := xs.length ≤ sizeLine ∧ ∀ p, H p = none → Q (.ref p) (upd H p (.lst xs))
theorem tupN (h : tr σ H (NewT Q)) : tTup tr σ H Q := h
theorem lstN (h : tr σ H (NewL Q)) : tLst tr σ H Q := h
theorem nwT {xs : List V} (s : xs.length ≤ sizeLine) (h : ∀ p H', H p = none → Same H H' → H' p = some (.tup xs) → Q (.ref p) H') : NewT Q xs H := ⟨s, fun p np => h p _ np (same_new np) upd_same⟩
theorem nwL {xs : List V} (s : xs.length ≤ sizeLine) (h : ∀ p H', H p = none → Same H H' → H' p = some (.lst xs) → Q (.ref p) H') : NewL Q xs H := ⟨s, fun p np => h p _ np (same_new np) upd_same⟩
def ListOf (K : PySem.W.Frag) (Q : VK) (vs : List V) (H : Hp) : Prop := ∃ p ys, vs = [.ref p] ∧ (SqL K H p ys ∨ SqT K H p ys) ∧ ∀ l, H l = none → Q (.ref l) (upd H l (.lst ys))
theorem cbListOf (h : tr σ H (ListOf K Q)) : tCB (fun xs H Q => ∃ p ys, xs = [.ref p] ∧ (SqL K H p ys ∨ SqT K H p ys) ∧ ∀ l, H l = none → Q (.ref l) (upd H l (.lst ys))) tr σ H Q := h
theorem listOfq {a : Addr} {ys : List V} (s : SqL K H a ys) (h : ∀ p H', H p = none → Same H H' → H' p = some (.lst ys) → Q (.ref p) H') : ListOf K Q [.ref a] H := ⟨a, ys, rfl, .inl s, fun p np => h p _ np (same_new np) upd_same⟩
theorem listOf {a : Addr} {ys : List V} (s : H a = some (.lst ys)) (h : ∀ p H', H p = none → Same H H' → H' p = some (.lst ys) → Q (.ref p) H') : ListOf K Q [.ref a] H := listOfq (SqL.of s) h
def SlL (K : PySem.W.Frag) (x : V) (lo hi : Option Int) (Q : VK) (H : Hp) : Prop := ∃ a xs, x = .ref a ∧ SqL K H a xs ∧ ∀ p, H p = none → Q (.ref p) (upd H p (.lst (cutV xs lo hi)))
theorem slN {tl th : TO} (h : te σ H fun x H1 => tl σ H1 fun l H2 => th σ H2 fun u H3 => SlL K x l u Q H3) : L2.tSl (rSlL K) te tl th σ H Q := h
theorem slq {a : Addr} {xs : List V} {lo hi : Option Int} (s : SqL K H a xs) (h : ∀ p H', H p = none → Same H H' → H' p = some (.lst (cutV xs lo hi)) → Q (.ref p) H') : SlL K (.ref a) lo hi Q H := ⟨a, xs, rfl, s, fun p np => h p _ np (same_new np) upd_same⟩
theorem slo {a : Addr} {xs : List V} {lo hi : Option Int} (s : H a = some (.lst xs)) (h : ∀ p H', H p = none → Same H H' → H' p = some (.lst (cutV xs lo hi)) → Q (.ref p) H') : SlL K (.ref a) lo hi Q H := slq (SqL.of s) h
def SrtI (K : PySem.W.Frag) (Q : VK) (vs : List V) (H : Hp) : Prop := rSortedI K vs H Q
theorem cbSrtI (h : tr σ H (SrtI K Q)) : tCB (rSortedI K) tr σ H Q := h
theorem srtI {a : Addr} {ns : List Int} (s : SqL K H a (ns.map V.int)) (h : ∀ (ns' : List Int) p H', ns'.Perm ns → ns'.Pairwise (· ≤ ·) → H p = none → Same H H' → H' p = some (.lst (ns'.map V.int)) → Q (.ref p) H') : SrtI K Q [.ref a] H :=
  ⟨a, ns, rfl, s, fun ns' p e1 e2 np => h ns' p _ e1 e2 np (same_new np) upd_same⟩
theorem srtIo {a : Addr} {ns : List Int} (s : H a = some (.lst (ns.map V.int))) (h : ∀ (ns' : List Int) p H', ns'.Perm ns → ns'.Pairwise (· ≤ ·) → H p = none → Same H H' → H' p = some (.lst (ns'.map V.int)) → Q (.ref p) H') : SrtI K Q [.ref a] H := srtI (SqL.of s) h
theorem eqD {d e : PyData} (h1 : Dp K H x d) (h2 : Dp K H y e) (s1 : SeqAt.shaped d = true) (s2 : SeqAt.shaped e = true) (q : Q (.bl (PyData.eqv d e)) H) : rEqD K x y H Q := ⟨d, e, h1, h2, s1, s2, q⟩
theorem neD {d e : PyData} (h1 : Dp K H x d) (h2 : Dp K H y e) (s1 : SeqAt.shaped d = true) (s2 : SeqAt.shaped e = true) (q : Q (.bl (!PyData.eqv d e)) H) : rNeD K x y H Q := ⟨d, e, h1, h2, s1, s2, q⟩
/-! ### isinstance -/
theorem isi {T U : String} {b : Bool} (t : TyX K H x (.type T)) (k : kitB T U = some b) (q : Q (.bl b) H) : rIsi K [x, .ty U] H Q := ⟨x, .ty U, _, _, b, rfl, .ty _, t, kit_ty k, q⟩
theorem isi_ii {n : Int} (q : Q (.bl true) H) : rIsi K [.int n, .ty "int"] H Q := isi (.base (.int _)) (by decide +kernel) q
theorem isi_ib {n : Int} (q : Q (.bl false) H) : rIsi K [.int n, .ty "bool"] H Q := isi (.base (.int _)) (by decide +kernel) q
theorem isi_is {n : Int} (q : Q (.bl false) H) : rIsi K [.int n, .ty "str"] H Q := isi (.base (.int _)) (by decide +kernel) q
theorem isi_il {n : Int} (q : Q (.bl false) H) : rIsi K [.int n, .ty "list"] H Q := isi (.base (.int _)) (by decide +kernel) q
theorem isi_it {n : Int} (q : Q (.bl false) H) : rIsi K [.int n, .ty "tuple"] H Q := isi (.base (.int _)) (by decide +kernel) q
theorem isi_id {n : Int} (q : Q (.bl false) H) : rIsi K [.int n, .ty "dict"] H Q := isi (.base (.int _)) (by decide +kernel) q
theorem isi_bi {n : Bool} (q : Q (.bl true) H) : rIsi K [.bl n, .ty "int"] H Q := isi (.base (.bl _)) (by decide +kernel) q
theorem isi_bb {n : Bool} (q : Q (.bl true) H) : rIsi K [.bl n, .ty "bool"] H Q := isi (.base (.bl _)) (by decide +kernel) q
theorem isi_bs {n : Bool} (q : Q (.bl false) H) : rIsi K [.bl n, .ty "str"] H Q := isi (.base (.bl _)) (by decide +kernel) q
theorem isi_bl {n : Bool} (q : Q (.bl false) H) : rIsi K [.bl n, .ty "list"] H Q := isi (.base (.bl _)) (by decide +kernel) q
theorem isi_bt {n : Bool} (q : Q (.bl false) H) : rIsi K [.bl n, .ty "tuple"] H Q := isi (.base (.bl _)) (by decide +kernel) q
theorem isi_bd {n : Bool} (q : Q (.bl false) H) : rIsi K [.bl n, .ty "dict"] H Q := isi (.base (.bl _)) (by decide +kernel) q
theorem isi_si {n : Str} (q : Q (.bl false) H) : rIsi K [.str n, .ty "int"] H Q := isi (.base (.str _)) (by decide +kernel) q
theorem isi_sb {n : Str} (q : Q (.bl false) H) : rIsi K [.str n, .ty "bool"] H Q := isi (.base (.str _)) (by decide +kernel) q
theorem isi_ss {n : Str} (q : Q (.bl true) H) : rIsi K [.str n, .ty "str"] H Q := isi (.base (.str _)) (by decide +kernel) q
theorem isi_sl {n : Str} (q : Q (.bl false) H) : rIsi K [.str n, .ty "list"] H Q := isi (.base (.str _)) (by decide +kernel) q
theorem isi_st {n : Str} (q : Q (.bl false) H) : rIsi K [.str n, .ty "tuple"] H Q := isi (.base (.str _)) (by decide +kernel) q
theorem isi_sd {n : Str} (q : Q (.bl false) H) : rIsi K [.str n, .ty "dict"] H Q := isi (.base (.str _)) (by decide +kernel) q
theorem isi_li {n : Addr} {xs : List V} (h : H n = some (.lst xs)) (q : Q (.bl false) H) : rIsi K [.ref n, .ty "int"] H Q := isi (.base (.lst h)) (by decide +kernel) q
theorem isi_lb {n : Addr} {xs : List V} (h : H n = some (.lst xs)) (q : Q (.bl false) H) : rIsi K [.ref n, .ty "bool"] H Q := isi (.base (.lst h)) (by decide +kernel) q
theorem isi_ls {n : Addr} {xs : List V} (h : H n = some (.lst xs)) (q : Q (.bl false) H) : rIsi K [.ref n, .ty "str"] H Q := isi (.base (.lst h)) (by decide +kernel) q
theorem isi_ll {n : Addr} {xs : List V} (h : H n = some (.lst xs)) (q : Q (.bl true) H) : rIsi K [.ref n, .ty "list"] H Q := isi (.base (.lst h)) (by decide +kernel) q
theorem isi_lt {n : Addr} {xs : List V} (h : H n = some (.lst xs)) (q : Q (.bl false) H) : rIsi K [.ref n, .ty "tuple"] H Q := isi (.base (.lst h)) (by decide +kernel) q
theorem isi_ld {n : Addr} {xs : List V} (h : H n = some (.lst xs)) (q : Q (.bl false) H) : rIsi K [.ref n, .ty "dict"] H Q := isi (.base (.lst h)) (by decide +kernel) q
theorem isi_ti {n : Addr} {xs : List V} (h : H n = some (.tup xs)) (q : Q (.bl false) H) : rIsi K [.ref n, .ty "int"] H Q := isi (.base (.tup h)) (by decide +kernel) q
theorem isi_tb {n : Addr} {xs : List V} (h : H n = some (.tup xs)) (q : Q (.bl false) H) : rIsi K [.ref n, .ty "bool"] H Q := isi (.base (.tup h)) (by decide +kernel) q
theorem isi_ts {n : Addr} {xs : List V} (h : H n = some (.tup xs)) (q : Q (.bl false) H) : rIsi K [.ref n, .ty "str"] H Q := isi (.base (.tup h)) (by decide +kernel) q
theorem isi_tl {n : Addr} {xs : List V} (h : H n = some (.tup xs)) (q : Q (.bl false) H) : rIsi K [.ref n, .ty "list"] H Q := isi (.base (.tup h)) (by decide +kernel) q
theorem isi_tt {n : Addr} {xs : List V} (h : H n = some (.tup xs)) (q : Q (.bl true) H) : rIsi K [.ref n, .ty "tuple"] H Q := isi (.base (.tup h)) (by decide +kernel) q
theorem isi_td {n : Addr} {xs : List V} (h : H n = some (.tup xs)) (q : Q (.bl false) H) : rIsi K [.ref n, .ty "dict"] H Q := isi (.base (.tup h)) (by decide +kernel) q
theorem isi_ni  (q : Q (.bl false) H) : rIsi K [.non, .ty "int"] H Q := isi (.base .non) (by decide +kernel) q
theorem isi_nb  (q : Q (.bl false) H) : rIsi K [.non, .ty "bool"] H Q := isi (.base .non) (by decide +kernel) q
theorem isi_ns  (q : Q (.bl false) H) : rIsi K [.non, .ty "str"] H Q := isi (.base .non) (by decide +kernel) q
theorem isi_nl  (q : Q (.bl false) H) : rIsi K [.non, .ty "list"] H Q := isi (.base .non) (by decide +kernel) q
theorem isi_nt  (q : Q (.bl false) H) : rIsi K [.non, .ty "tuple"] H Q := isi (.base .non) (by decide +kernel) q
theorem isi_nd  (q : Q (.bl false) H) : rIsi K [.non, .ty "dict"] H Q := isi (.base .non) (by decide +kernel) q
/-! ### slices of lists -/
theorem cut_to (xs : List V) (n : Nat) : cutV xs none (some (n : Int)) = xs.take n := by
  unfold cutV
  rw [HT.sIx_nat, HT.sIx_none, List.drop_zero, Nat.sub_zero]
  rcases Nat.le_total n xs.length with h | h
  · rw [Nat.min_eq_left h]
  · rw [Nat.min_eq_right h, List.take_of_length_le (Nat.le_refl _), List.take_of_length_le h]
theorem cut_from (xs : List V) (n : Nat) : cutV xs (some (n : Int)) none = xs.drop n := by
  unfold cutV
  rw [HT.sIx_nat, HT.sIx_none]
  rcases Nat.le_total n xs.length with h | h
  · rw [Nat.min_eq_left h, List.take_of_length_le (by rw [List.length_drop]; omega)]
  · rw [Nat.min_eq_right h, List.drop_of_length_le h, List.drop_of_length_le (Nat.le_refl _), List.take_nil]
theorem eqv_self (d : PyData) (h : d.canLay0 = true) : PyData.eqv d d = true := PySem.SeqAt.eqv_refl d h
/-! ### ints of a list, filtered -/
theorem lc_fl {a : Addr} {ns : List Int} {g : TG} {tt : TT} {te : TE} {vs : List Nat} {σ : L2.St} {H1 : Hp} {C : Addr} {Qd : Hp → Prop} (p : Int → Bool) (hS : SqL K H1 a (ns.map V.int)) (nD : H1 C = none) (hn : ns.length ≤ 90000)
    (hs : ∀ (i : Nat) H (n : Int) (Kt : VK) (Kn : Hp → Prop), ns[i]? = some n → But C H1 H → (p n = true → Kt (.int n) H) → (p n = false → Kn H) → g (.int n) (wipe σ vs) H fun σ2 H2 => wipe σ2 vs = wipe σ vs ∧ tt σ2 H2 fun b H3 => if b = true then te σ2 H3 Kt else Kn H3)
    (hd : ∀ H, Same H1 H → H C = some (.lst ((ns.filter p).map V.int)) → Qd H) :
    ∃ W : Nat → Nat → Hp → Prop, (∃ m, W 0 m (upd H1 C (.lst []))) ∧ ∀ i m H, W i m H →
      ((Itl K a).stop i H ∧ Qd H) ∨ ((Itl K a).go i H ∧ ∃ Nx : Hp → Prop, (∀ H', Nx H' → ∃ m', m' < m ∧ W (i + 1) m' H') ∧ ∀ x H', (Itl K a).yld i H x H' → g x (wipe σ vs) H' fun σ2 H2 => wipe σ2 vs = wipe σ vs ∧ tt σ2 H2 fun b H3 =>
        if b = true then te σ2 H3 fun y H4 => ∃ acc, H4 C = some (.lst acc) ∧ acc.length < sizeLine ∧ Nx (upd H4 C (.lst (acc ++ [y]))) else Nx H3) := by
  refine lc_it (walk_list (xs := ns.map V.int)) (fun i H => But C H1 H ∧ H C = some (.lst (((ns.take i).filter p).map V.int))) ⟨But.at_, by simp [upd_same]⟩ (fun i H _ h => (h.1.to nD).seq hS) (fun i x H H' hi ⟨b, hD⟩ y => ?_) (fun H ⟨b, hD⟩ => ?_)
  · obtain ⟨rfl, hx⟩ := y
    rw [List.getElem?_map] at hx
    obtain ⟨n, hn2, rfl⟩ : ∃ n, ns[i]? = some n ∧ V.int n = x := by
      cases e : ns[i]? with
      | none => rw [e] at hx; cases hx
      | some n => rw [e] at hx; exact ⟨n, rfl, Option.some.inj hx⟩
    have tk : (ns.take (i + 1)).filter p = (ns.take i).filter p ++ [n].filter p := by
      rw [List.take_add_one, hn2, List.filter_append]; rfl
    refine hs i _ n _ _ hn2 b (fun hp => ?_) (fun hp => ?_)
    · refine ⟨_, hD, szl ?_, b.trans But.at_, ?_⟩
      · rw [List.length_map]
        have := List.length_filter_le p (ns.take i)
        rw [List.length_take] at this
        omega
      · rw [upd_same, tk, List.filter_cons_of_pos hp]
        simp
    · refine ⟨b, ?_⟩
      rw [tk, List.filter_cons_of_neg (by simp [hp])]
      simpa using hD
  · rw [List.length_map, List.take_of_length_le (Nat.le_refl _)] at hD
    exact hd H (b.to nD) hD
theorem intI {i : Int} {A : Int → Prop} {B : Prop} (h : A i) : (∃ j, [V.int i] = [.int j] ∧ A j) ∨ B := .inl ⟨i, rfl, h⟩
theorem pos_ne {i : Int} (h : 0 < i) : i ≠ 0 := by omega
theorem ifnT {A B : Prop} (h : B) : if (!true) = true then A else B := by rw [if_neg (by decide)]; exact h
theorem ifnF {A B : Prop} (h : A) : if (!false) = true then A else B := by rw [if_pos (by decide)]; exact h
theorem cbListOfR {tr : TA} (h : tr σ H (ListOf K Q)) : tCB (rListOf K) tr σ H Q := h
def CatL (Q : VK) (x y : V) (H : Hp) : Prop := ∃ l b xs zs, x = .ref l ∧ y = .ref b ∧ H l = some (.lst xs) ∧ H b = some (.lst zs) ∧ xs.length + zs.length ≤ sizeLine ∧ ∀ p, H p = none → Q (.ref p) (upd H p (.lst (xs ++ zs)))
theorem catI (h : CatL Q x y H) : rCat x y H Q := h
theorem cat {a b : Addr} {xs zs : List V} (h1 : H a = some (.lst xs)) (h2 : H b = some (.lst zs)) (s : xs.length + zs.length ≤ 100000) (h : ∀ p H', H p = none → Same H H' → H' p = some (.lst (xs ++ zs)) → Q (.ref p) H') : CatL Q (.ref a) (.ref b) H := ⟨a, b, xs, zs, rfl, rfl, h1, h2, sz s, fun p np => h p _ np (same_new np) upd_same⟩
theorem v16 {a0 a1 a2 a3 a4 a5 a6 a7 a8 a9 a10 a11 a12 a13 a14 a15 : Option V} (h : Q v H) : tVar 16 (a0 :: a1 :: a2 :: a3 :: a4 :: a5 :: a6 :: a7 :: a8 :: a9 :: a10 :: a11 :: a12 :: a13 :: a14 :: a15 :: some v :: r) H Q := ⟨v, rfl, h⟩
theorem n16 {a0 a1 a2 a3 a4 a5 a6 a7 a8 a9 a10 a11 a12 a13 a14 a15 : Option V} {Q : L2.St → Hp → Prop} (h : Q (a0 :: a1 :: a2 :: a3 :: a4 :: a5 :: a6 :: a7 :: a8 :: a9 :: a10 :: a11 :: a12 :: a13 :: a14 :: a15 :: some v :: r) H) : gName 16 v (a0 :: a1 :: a2 :: a3 :: a4 :: a5 :: a6 :: a7 :: a8 :: a9 :: a10 :: a11 :: a12 :: a13 :: a14 :: a15 :: a :: r) H Q := h
theorem g16 {a0 a1 a2 a3 a4 a5 a6 a7 a8 a9 a10 a11 a12 a13 a14 a15 : Option V} {ti : TIp} (h : te (a0 :: a1 :: a2 :: a3 :: a4 :: a5 :: a6 :: a7 :: a8 :: a9 :: a10 :: a11 :: a12 :: a13 :: a14 :: a15 :: some x :: r) H fun y H1 => ti x y H1 fun z H2 => D.nx (a0 :: a1 :: a2 :: a3 :: a4 :: a5 :: a6 :: a7 :: a8 :: a9 :: a10 :: a11 :: a12 :: a13 :: a14 :: a15 :: some z :: r) H2) : tAug 16 te ti D (a0 :: a1 :: a2 :: a3 :: a4 :: a5 :: a6 :: a7 :: a8 :: a9 :: a10 :: a11 :: a12 :: a13 :: a14 :: a15 :: some x :: r) H := ⟨x, rfl, h⟩
theorem v17 {a0 a1 a2 a3 a4 a5 a6 a7 a8 a9 a10 a11 a12 a13 a14 a15 a16 : Option V} (h : Q v H) : tVar 17 (a0 :: a1 :: a2 :: a3 :: a4 :: a5 :: a6 :: a7 :: a8 :: a9 :: a10 :: a11 :: a12 :: a13 :: a14 :: a15 :: a16 :: some v :: r) H Q := ⟨v, rfl, h⟩
theorem n17 {a0 a1 a2 a3 a4 a5 a6 a7 a8 a9 a10 a11 a12 a13 a14 a15 a16 : Option V} {Q : L2.St → Hp → Prop} (h : Q (a0 :: a1 :: a2 :: a3 :: a4 :: a5 :: a6 :: a7 :: a8 :: a9 :: a10 :: a11 :: a12 :: a13 :: a14 :: a15 :: a16 :: some v :: r) H) : gName 17 v (a0 :: a1 :: a2 :: a3 :: a4 :: a5 :: a6 :: a7 :: a8 :: a9 :: a10 :: a11 :: a12 :: a13 :: a14 :: a15 :: a16 :: a :: r) H Q := h
theorem g17 {a0 a1 a2 a3 a4 a5 a6 a7 a8 a9 a10 a11 a12 a13 a14 a15 a16 : Option V} {ti : TIp} (h : te (a0 :: a1 :: a2 :: a3 :: a4 :: a5 :: a6 :: a7 :: a8 :: a9 :: a10 :: a11 :: a12 :: a13 :: a14 :: a15 :: a16 :: some x :: r) H fun y H1 => ti x y H1 fun z H2 => D.nx (a0 :: a1 :: a2 :: a3 :: a4 :: a5 :: a6 :: a7 :: a8 :: a9 :: a10 :: a11 :: a12 :: a13 :: a14 :: a15 :: a16 :: some z :: r) H2) : tAug 17 te ti D (a0 :: a1 :: a2 :: a3 :: a4 :: a5 :: a6 :: a7 :: a8 :: a9 :: a10 :: a11 :: a12 :: a13 :: a14 :: a15 :: a16 :: some x :: r) H := ⟨x, rfl, h⟩
theorem v18 {a0 a1 a2 a3 a4 a5 a6 a7 a8 a9 a10 a11 a12 a13 a14 a15 a16 a17 : Option V} (h : Q v H) : tVar 18 (a0 :: a1 :: a2 :: a3 :: a4 :: a5 :: a6 :: a7 :: a8 :: a9 :: a10 :: a11 :: a12 :: a13 :: a14 :: a15 :: a16 :: a17 :: some v :: r) H Q := ⟨v, rfl, h⟩
theorem n18 {a0 a1 a2 a3 a4 a5 a6 a7 a8 a9 a10 a11 a12 a13 a14 a15 a16 a17 : Option V} {Q : L2.St → Hp → Prop} (h : Q (a0 :: a1 :: a2 :: a3 :: a4 :: a5 :: a6 :: a7 :: a8 :: a9 :: a10 :: a11 :: a12 :: a13 :: a14 :: a15 :: a16 :: a17 :: some v :: r) H) : gName 18 v (a0 :: a1 :: a2 :: a3 :: a4 :: a5 :: a6 :: a7 :: a8 :: a9 :: a10 :: a11 :: a12 :: a13 :: a14 :: a15 :: a16 :: a17 :: a :: r) H Q := h
theorem g18 {a0 a1 a2 a3 a4 a5 a6 a7 a8 a9 a10 a11 a12 a13 a14 a15 a16 a17 : Option V} {ti : TIp} (h : te (a0 :: a1 :: a2 :: a3 :: a4 :: a5 :: a6 :: a7 :: a8 :: a9 :: a10 :: a11 :: a12 :: a13 :: a14 :: a15 :: a16 :: a17 :: some x :: r) H fun y H1 => ti x y H1 fun z H2 => D.nx (a0 :: a1 :: a2 :: a3 :: a4 :: a5 :: a6 :: a7 :: a8 :: a9 :: a10 :: a11 :: a12 :: a13 :: a14 :: a15 :: a16 :: a17 :: some z :: r) H2) : tAug 18 te ti D (a0 :: a1 :: a2 :: a3 :: a4 :: a5 :: a6 :: a7 :: a8 :: a9 :: a10 :: a11 :: a12 :: a13 :: a14 :: a15 :: a16 :: a17 :: some x :: r) H := ⟨x, rfl, h⟩
theorem v19 {a0 a1 a2 a3 a4 a5 a6 a7 a8 a9 a10 a11 a12 a13 a14 a15 a16 a17 a18 : Option V} (h : Q v H) : tVar 19 (a0 :: a1 :: a2 :: a3 :: a4 :: a5 :: a6 :: a7 :: a8 :: a9 :: a10 :: a11 :: a12 :: a13 :: a14 :: a15 :: a16 :: a17 :: a18 :: some v :: r) H Q := ⟨v, rfl, h⟩
theorem n19 {a0 a1 a2 a3 a4 a5 a6 a7 a8 a9 a10 a11 a12 a13 a14 a15 a16 a17 a18 : Option V} {Q : L2.St → Hp → Prop} (h : Q (a0 :: a1 :: a2 :: a3 :: a4 :: a5 :: a6 :: a7 :: a8 :: a9 :: a10 :: a11 :: a12 :: a13 :: a14 :: a15 :: a16 :: a17 :: a18 :: some v :: r) H) : gName 19 v (a0 :: a1 :: a2 :: a3 :: a4 :: a5 :: a6 :: a7 :: a8 :: a9 :: a10 :: a11 :: a12 :: a13 :: a14 :: a15 :: a16 :: a17 :: a18 :: a :: r) H Q := h
theorem g19 {a0 a1 a2 a3 a4 a5 a6 a7 a8 a9 a10 a11 a12 a13 a14 a15 a16 a17 a18 : Option V} {ti : TIp} (h : te (a0 :: a1 :: a2 :: a3 :: a4 :: a5 :: a6 :: a7 :: a8 :: a9 :: a10 :: a11 :: a12 :: a13 :: a14 :: a15 :: a16 :: a17 :: a18 :: some x :: r) H fun y H1 => ti x y H1 fun z H2 => D.nx (a0 :: a1 :: a2 :: a3 :: a4 :: a5 :: a6 :: a7 :: a8 :: a9 :: a10 :: a11 :: a12 :: a13 :: a14 :: a15 :: a16 :: a17 :: a18 :: some z :: r) H2) : tAug 19 te ti D (a0 :: a1 :: a2 :: a3 :: a4 :: a5 :: a6 :: a7 :: a8 :: a9 :: a10 :: a11 :: a12 :: a13 :: a14 :: a15 :: a16 :: a17 :: a18 :: some x :: r) H := ⟨x, rfl, h⟩
theorem v20 {a0 a1 a2 a3 a4 a5 a6 a7 a8 a9 a10 a11 a12 a13 a14 a15 a16 a17 a18 a19 : Option V} (h : Q v H) : tVar 20 (a0 :: a1 :: a2 :: a3 :: a4 :: a5 :: a6 :: a7 :: a8 :: a9 :: a10 :: a11 :: a12 :: a13 :: a14 :: a15 :: a16 :: a17 :: a18 :: a19 :: some v :: r) H Q := ⟨v, rfl, h⟩
theorem n20 {a0 a1 a2 a3 a4 a5 a6 a7 a8 a9 a10 a11 a12 a13 a14 a15 a16 a17 a18 a19 : Option V} {Q : L2.St → Hp → Prop} (h : Q (a0 :: a1 :: a2 :: a3 :: a4 :: a5 :: a6 :: a7 :: a8 :: a9 :: a10 :: a11 :: a12 :: a13 :: a14 :: a15 :: a16 :: a17 :: a18 :: a19 :: some v :: r) H) : gName 20 v (a0 :: a1 :: a2 :: a3 :: a4 :: a5 :: a6 :: a7 :: a8 :: a9 :: a10 :: a11 :: a12 :: a13 :: a14 :: a15 :: a16 :: a17 :: a18 :: a19 :: a :: r) H Q := h
theorem g20 {a0 a1 a2 a3 a4 a5 a6 a7 a8 a9 a10 a11 a12 a13 a14 a15 a16 a17 a18 a19 : Option V} {ti : TIp} (h : te (a0 :: a1 :: a2 :: a3 :: a4 :: a5 :: a6 :: a7 :: a8 :: a9 :: a10 :: a11 :: a12 :: a13 :: a14 :: a15 :: a16 :: a17 :: a18 :: a19 :: some x :: r) H fun y H1 => ti x y H1 fun z H2 => D.nx (a0 :: a1 :: a2 :: a3 :: a4 :: a5 :: a6 :: a7 :: a8 :: a9 :: a10 :: a11 :: a12 :: a13 :: a14 :: a15 :: a16 :: a17 :: a18 :: a19 :: some z :: r) H2) : tAug 20 te ti D (a0 :: a1 :: a2 :: a3 :: a4 :: a5 :: a6 :: a7 :: a8 :: a9 :: a10 :: a11 :: a12 :: a13 :: a14 :: a15 :: a16 :: a17 :: a18 :: a19 :: some x :: r) H := ⟨x, rfl, h⟩
theorem v21 {a0 a1 a2 a3 a4 a5 a6 a7 a8 a9 a10 a11 a12 a13 a14 a15 a16 a17 a18 a19 a20 : Option V} (h : Q v H) : tVar 21 (a0 :: a1 :: a2 :: a3 :: a4 :: a5 :: a6 :: a7 :: a8 :: a9 :: a10 :: a11 :: a12 :: a13 :: a14 :: a15 :: a16 :: a17 :: a18 :: a19 :: a20 :: some v :: r) H Q := ⟨v, rfl, h⟩
theorem n21 {a0 a1 a2 a3 a4 a5 a6 a7 a8 a9 a10 a11 a12 a13 a14 a15 a16 a17 a18 a19 a20 : Option V} {Q : L2.St → Hp → Prop} (h : Q (a0 :: a1 :: a2 :: a3 :: a4 :: a5 :: a6 :: a7 :: a8 :: a9 :: a10 :: a11 :: a12 :: a13 :: a14 :: a15 :: a16 :: a17 :: a18 :: a19 :: a20 :: some v :: r) H) : gName 21 v (a0 :: a1 :: a2 :: a3 :: a4 :: a5 :: a6 :: a7 :: a8 :: a9 :: a10 :: a11 :: a12 :: a13 :: a14 :: a15 :: a16 :: a17 :: a18 :: a19 :: a20 :: a :: r) H Q := h
theorem g21 {a0 a1 a2 a3 a4 a5 a6 a7 a8 a9 a10 a11 a12 a13 a14 a15 a16 a17 a18 a19 a20 : Option V} {ti : TIp} (h : te (a0 :: a1 :: a2 :: a3 :: a4 :: a5 :: a6 :: a7 :: a8 :: a9 :: a10 :: a11 :: a12 :: a13 :: a14 :: a15 :: a16 :: a17 :: a18 :: a19 :: a20 :: some x :: r) H fun y H1 => ti x y H1 fun z H2 => D.nx (a0 :: a1 :: a2 :: a3 :: a4 :: a5 :: a6 :: a7 :: a8 :: a9 :: a10 :: a11 :: a12 :: a13 :: a14 :: a15 :: a16 :: a17 :: a18 :: a19 :: a20 :: some z :: r) H2) : tAug 21 te ti D (a0 :: a1 :: a2 :: a3 :: a4 :: a5 :: a6 :: a7 :: a8 :: a9 :: a10 :: a11 :: a12 :: a13 :: a14 :: a15 :: a16 :: a17 :: a18 :: a19 :: a20 :: some x :: r) H := ⟨x, rfl, h⟩
theorem v22 {a0 a1 a2 a3 a4 a5 a6 a7 a8 a9 a10 a11 a12 a13 a14 a15 a16 a17 a18 a19 a20 a21 : Option V} (h : Q v H) : tVar 22 (a0 :: a1 :: a2 :: a3 :: a4 :: a5 :: a6 :: a7 :: a8 :: a9 :: a10 :: a11 :: a12 :: a13 :: a14 :: a15 :: a16 :: a17 :: a18 :: a19 :: a20 :: a21 :: some v :: r) H Q := ⟨v, rfl, h⟩
theorem n22 {a0 a1 a2 a3 a4 a5 a6 a7 a8 a9 a10 a11 a12 a13 a14 a15 a16 a17 a18 a19 a20 a21 : Option V} {Q : L2.St → Hp → Prop} (h : Q (a0 :: a1 :: a2 :: a3 :: a4 :: a5 :: a6 :: a7 :: a8 :: a9 :: a10 :: a11 :: a12 :: a13 :: a14 :: a15 :: a16 :: a17 :: a18 :: a19 :: a20 :: a21 :: some v :: r) H) : gName 22 v (a0 :: a1 :: a2 :: a3 :: a4 :: a5 :: a6 :: a7 :: a8 :: a9 :: a10 :: a11 :: a12 :: a13 :: a14 :: a15 :: a16 :: a17 :: a18 :: a19 :: a20 :: a21 :: a :: r) H Q := h
theorem g22 {a0 a1 a2 a3 a4 a5 a6 a7 a8 a9 a10 a11 a12 a13 a14 a15 a16 a17 a18 a19 a20 a21 : Option V} {ti : TIp} (h : te (a0 :: a1 :: a2 :: a3 :: a4 :: a5 :: a6 :: a7 :: a8 :: a9 :: a10 :: a11 :: a12 :: a13 :: a14 :: a15 :: a16 :: a17 :: a18 :: a19 :: a20 :: a21 :: some x :: r) H fun y H1 => ti x y H1 fun z H2 => D.nx (a0 :: a1 :: a2 :: a3 :: a4 :: a5 :: a6 :: a7 :: a8 :: a9 :: a10 :: a11 :: a12 :: a13 :: a14 :: a15 :: a16 :: a17 :: a18 :: a19 :: a20 :: a21 :: some z :: r) H2) : tAug 22 te ti D (a0 :: a1 :: a2 :: a3 :: a4 :: a5 :: a6 :: a7 :: a8 :: a9 :: a10 :: a11 :: a12 :: a13 :: a14 :: a15 :: a16 :: a17 :: a18 :: a19 :: a20 :: a21 :: some x :: r) H := ⟨x, rfl, h⟩
theorem v23 {a0 a1 a2 a3 a4 a5 a6 a7 a8 a9 a10 a11 a12 a13 a14 a15 a16 a17 a18 a19 a20 a21 a22 : Option V} (h : Q v H) : tVar 23 (a0 :: a1 :: a2 :: a3 :: a4 :: a5 :: a6 :: a7 :: a8 :: a9 :: a10 :: a11 :: a12 :: a13 :: a14 :: a15 :: a16 :: a17 :: a18 :: a19 :: a20 :: a21 :: a22 :: some v :: r) H Q := ⟨v, rfl, h⟩
theorem n23 {a0 a1 a2 a3 a4 a5 a6 a7 a8 a9 a10 a11 a12 a13 a14 a15 a16 a17 a18 a19 a20 a21 a22 : Option V} {Q : L2.St → Hp → Prop} (h : Q (a0 :: a1 :: a2 :: a3 :: a4 :: a5 :: a6 :: a7 :: a8 :: a9 :: a10 :: a11 :: a12 :: a13 :: a14 :: a15 :: a16 :: a17 :: a18 :: a19 :: a20 :: a21 :: a22 :: some v :: r) H) : gName 23 v (a0 :: a1 :: a2 :: a3 :: a4 :: a5 :: a6 :: a7 :: a8 :: a9 :: a10 :: a11 :: a12 :: a13 :: a14 :: a15 :: a16 :: a17 :: a18 :: a19 :: a20 :: a21 :: a22 :: a :: r) H Q := h
theorem g23 {a0 a1 a2 a3 a4 a5 a6 a7 a8 a9 a10 a11 a12 a13 a14 a15 a16 a17 a18 a19 a20 a21 a22 : Option V} {ti : TIp} (h : te (a0 :: a1 :: a2 :: a3 :: a4 :: a5 :: a6 :: a7 :: a8 :: a9 :: a10 :: a11 :: a12 :: a13 :: a14 :: a15 :: a16 :: a17 :: a18 :: a19 :: a20 :: a21 :: a22 :: some x :: r) H fun y H1 => ti x y H1 fun z H2 => D.nx (a0 :: a1 :: a2 :: a3 :: a4 :: a5 :: a6 :: a7 :: a8 :: a9 :: a10 :: a11 :: a12 :: a13 :: a14 :: a15 :: a16 :: a17 :: a18 :: a19 :: a20 :: a21 :: a22 :: some z :: r) H2) : tAug 23 te ti D (a0 :: a1 :: a2 :: a3 :: a4 :: a5 :: a6 :: a7 :: a8 :: a9 :: a10 :: a11 :: a12 :: a13 :: a14 :: a15 :: a16 :: a17 :: a18 :: a19 :: a20 :: a21 :: a22 :: some x :: r) H := ⟨x, rfl, h⟩
theorem v24 {a0 a1 a2 a3 a4 a5 a6 a7 a8 a9 a10 a11 a12 a13 a14 a15 a16 a17 a18 a19 a20 a21 a22 a23 : Option V} (h : Q v H) : tVar 24 (a0 :: a1 :: a2 :: a3 :: a4 :: a5 :: a6 :: a7 :: a8 :: a9 :: a10 :: a11 :: a12 :: a13 :: a14 :: a15 :: a16 :: a17 :: a18 :: a19 :: a20 :: a21 :: a22 :: a23 :: some v :: r) H Q := ⟨v, rfl, h⟩
theorem n24 {a0 a1 a2 a3 a4 a5 a6 a7 a8 a9 a10 a11 a12 a13 a14 a15 a16 a17 a18 a19 a20 a21 a22 a23 : Option V} {Q : L2.St → Hp → Prop} (h : Q (a0 :: a1 :: a2 :: a3 :: a4 :: a5 :: a6 :: a7 :: a8 :: a9 :: a10 :: a11 :: a12 :: a13 :: a14 :: a15 :: a16 :: a17 :: a18 :: a19 :: a20 :: a21 :: a22 :: a23 :: some v :: r) H) : gName 24 v (a0 :: a1 :: a2 :: a3 :: a4 :: a5 :: a6 :: a7 :: a8 :: a9 :: a10 :: a11 :: a12 :: a13 :: a14 :: a15 :: a16 :: a17 :: a18 :: a19 :: a20 :: a21 :: a22 :: a23 :: a :: r) H Q := h
theorem g24 {a0 a1 a2 a3 a4 a5 a6 a7 a8 a9 a10 a11 a12 a13 a14 a15 a16 a17 a18 a19 a20 a21 a22 a23 : Option V} {ti : TIp} (h : te (a0 :: a1 :: a2 :: a3 :: a4 :: a5 :: a6 :: a7 :: a8 :: a9 :: a10 :: a11 :: a12 :: a13 :: a14 :: a15 :: a16 :: a17 :: a18 :: a19 :: a20 :: a21 :: a22 :: a23 :: some x :: r) H fun y H1 => ti x y H1 fun z H2 => D.nx (a0 :: a1 :: a2 :: a3 :: a4 :: a5 :: a6 :: a7 :: a8 :: a9 :: a10 :: a11 :: a12 :: a13 :: a14 :: a15 :: a16 :: a17 :: a18 :: a19 :: a20 :: a21 :: a22 :: a23 :: some z :: r) H2) : tAug 24 te ti D (a0 :: a1 :: a2 :: a3 :: a4 :: a5 :: a6 :: a7 :: a8 :: a9 :: a10 :: a11 :: a12 :: a13 :: a14 :: a15 :: a16 :: a17 :: a18 :: a19 :: a20 :: a21 :: a22 :: a23 :: some x :: r) H := ⟨x, rfl, h⟩
theorem v25 {a0 a1 a2 a3 a4 a5 a6 a7 a8 a9 a10 a11 a12 a13 a14 a15 a16 a17 a18 a19 a20 a21 a22 a23 a24 : Option V} (h : Q v H) : tVar 25 (a0 :: a1 :: a2 :: a3 :: a4 :: a5 :: a6 :: a7 :: a8 :: a9 :: a10 :: a11 :: a12 :: a13 :: a14 :: a15 :: a16 :: a17 :: a18 :: a19 :: a20 :: a21 :: a22 :: a23 :: a24 :: some v :: r) H Q := ⟨v, rfl, h⟩
theorem n25 {a0 a1 a2 a3 a4 a5 a6 a7 a8 a9 a10 a11 a12 a13 a14 a15 a16 a17 a18 a19 a20 a21 a22 a23 a24 : Option V} {Q : L2.St → Hp → Prop} (h : Q (a0 :: a1 :: a2 :: a3 :: a4 :: a5 :: a6 :: a7 :: a8 :: a9 :: a10 :: a11 :: a12 :: a13 :: a14 :: a15 :: a16 :: a17 :: a18 :: a19 :: a20 :: a21 :: a22 :: a23 :: a24 :: some v :: r) H) : gName 25 v (a0 :: a1 :: a2 :: a3 :: a4 :: a5 :: a6 :: a7 :: a8 :: a9 :: a10 :: a11 :: a12 :: a13 :: a14 :: a15 :: a16 :: a17 :: a18 :: a19 :: a20 :: a21 :: a22 :: a23 :: a24 :: a :: r) H Q := h
theorem g25 {a0 a1 a2 a3 a4 a5 a6 a7 a8 a9 a10 a11 a12 a13 a14 a15 a16 a17 a18 a19 a20 a21 a22 a23 a24 : Option V} {ti : TIp} (h : te (a0 :: a1 :: a2 :: a3 :: a4 :: a5 :: a6 :: a7 :: a8 :: a9 :: a10 :: a11 :: a12 :: a13 :: a14 :: a15 :: a16 :: a17 :: a18 :: a19 :: a20 :: a21 :: a22 :: a23 :: a24 :: some x :: r) H fun y H1 => ti x y H1 fun z H2 => D.nx (a0 :: a1 :: a2 :: a3 :: a4 :: a5 :: a6 :: a7 :: a8 :: a9 :: a10 :: a11 :: a12 :: a13 :: a14 :: a15 :: a16 :: a17 :: a18 :: a19 :: a20 :: a21 :: a22 :: a23 :: a24 :: some z :: r) H2) : tAug 25 te ti D (a0 :: a1 :: a2 :: a3 :: a4 :: a5 :: a6 :: a7 :: a8 :: a9 :: a10 :: a11 :: a12 :: a13 :: a14 :: a15 :: a16 :: a17 :: a18 :: a19 :: a20 :: a21 :: a22 :: a23 :: a24 :: some x :: r) H := ⟨x, rfl, h⟩
theorem v26 {a0 a1 a2 a3 a4 a5 a6 a7 a8 a9 a10 a11 a12 a13 a14 a15 a16 a17 a18 a19 a20 a21 a22 a23 a24 a25 : Option V} (h : Q v H) : tVar 26 (a0 :: a1 :: a2 :: a3 :: a4 :: a5 :: a6 :: a7 :: a8 :: a9 :: a10 :: a11 :: a12 :: a13 :: a14 :: a15 :: a16 :: a17 :: a18 :: a19 :: a20 :: a21 :: a22 :: a23 :: a24 :: a25 :: some v :: r) H Q := ⟨v, rfl, h⟩
theorem n26 {a0 a1 a2 a3 a4 a5 a6 a7 a8 a9 a10 a11 a12 a13 a14 a15 a16 a17 a18 a19 a20 a21 a22 a23 a24 a25 : Option V} {Q : L2.St → Hp → Prop} (h : Q (a0 :: a1 :: a2 :: a3 :: a4 :: a5 :: a6 :: a7 :: a8 :: a9 :: a10 :: a11 :: a12 :: a13 :: a14 :: a15 :: a16 :: a17 :: a18 :: a19 :: a20 :: a21 :: a22 :: a23 :: a24 :: a25 :: some v :: r) H) : gName 26 v (a0 :: a1 :: a2 :: a3 :: a4 :: a5 :: a6 :: a7 :: a8 :: a9 :: a10 :: a11 :: a12 :: a13 :: a14 :: a15 :: a16 :: a17 :: a18 :: a19 :: a20 :: a21 :: a22 :: a23 :: a24 :: a25 :: a :: r) H Q := h
theorem g26 {a0 a1 a2 a3 a4 a5 a6 a7 a8 a9 a10 a11 a12 a13 a14 a15 a16 a17 a18 a19 a20 a21 a22 a23 a24 a25 : Option V} {ti : TIp} (h : te (a0 :: a1 :: a2 :: a3 :: a4 :: a5 :: a6 :: a7 :: a8 :: a9 :: a10 :: a11 :: a12 :: a13 :: a14 :: a15 :: a16 :: a17 :: a18 :: a19 :: a20 :: a21 :: a22 :: a23 :: a24 :: a25 :: some x :: r) H fun y H1 => ti x y H1 fun z H2 => D.nx (a0 :: a1 :: a2 :: a3 :: a4 :: a5 :: a6 :: a7 :: a8 :: a9 :: a10 :: a11 :: a12 :: a13 :: a14 :: a15 :: a16 :: a17 :: a18 :: a19 :: a20 :: a21 :: a22 :: a23 :: a24 :: a25 :: some z :: r) H2) : tAug 26 te ti D (a0 :: a1 :: a2 :: a3 :: a4 :: a5 :: a6 :: a7 :: a8 :: a9 :: a10 :: a11 :: a12 :: a13 :: a14 :: a15 :: a16 :: a17 :: a18 :: a19 :: a20 :: a21 :: a22 :: a23 :: a24 :: a25 :: some x :: r) H := ⟨x, rfl, h⟩
theorem v27 {a0 a1 a2 a3 a4 a5 a6 a7 a8 a9 a10 a11 a12 a13 a14 a15 a16 a17 a18 a19 a20 a21 a22 a23 a24 a25 a26 : Option V} (h : Q v H) : tVar 27 (a0 :: a1 :: a2 :: a3 :: a4 :: a5 :: a6 :: a7 :: a8 :: a9 :: a10 :: a11 :: a12 :: a13 :: a14 :: a15 :: a16 :: a17 :: a18 :: a19 :: a20 :: a21 :: a22 :: a23 :: a24 :: a25 :: a26 :: some v :: r) H Q := ⟨v, rfl, h⟩
theorem n27 {a0 a1 a2 a3 a4 a5 a6 a7 a8 a9 a10 a11 a12 a13 a14 a15 a16 a17 a18 a19 a20 a21 a22 a23 a24 a25 a26 : Option V} {Q : L2.St → Hp → Prop} (h : Q (a0 :: a1 :: a2 :: a3 :: a4 :: a5 :: a6 :: a7 :: a8 :: a9 :: a10 :: a11 :: a12 :: a13 :: a14 :: a15 :: a16 :: a17 :: a18 :: a19 :: a20 :: a21 :: a22 :: a23 :: a24 :: a25 :: a26 :: some v :: r) H) : gName 27 v (a0 :: a1 :: a2 :: a3 :: a4 :: a5 :: a6 :: a7 :: a8 :: a9 :: a10 :: a11 :: a12 :: a13 :: a14 :: a15 :: a16 :: a17 :: a18 :: a19 :: a20 :: a21 :: a22 :: a23 :: a24 :: a25 :: a26 :: a :: r) H Q := h
theorem g27 {a0 a1 a2 a3 a4 a5 a6 a7 a8 a9 a10 a11 a12 a13 a14 a15 a16 a17 a18 a19 a20 a21 a22 a23 a24 a25 a26 : Option V} {ti : TIp} (h : te (a0 :: a1 :: a2 :: a3 :: a4 :: a5 :: a6 :: a7 :: a8 :: a9 :: a10 :: a11 :: a12 :: a13 :: a14 :: a15 :: a16 :: a17 :: a18 :: a19 :: a20 :: a21 :: a22 :: a23 :: a24 :: a25 :: a26 :: some x :: r) H fun y H1 => ti x y H1 fun z H2 => D.nx (a0 :: a1 :: a2 :: a3 :: a4 :: a5 :: a6 :: a7 :: a8 :: a9 :: a10 :: a11 :: a12 :: a13 :: a14 :: a15 :: a16 :: a17 :: a18 :: a19 :: a20 :: a21 :: a22 :: a23 :: a24 :: a25 :: a26 :: some z :: r) H2) : tAug 27 te ti D (a0 :: a1 :: a2 :: a3 :: a4 :: a5 :: a6 :: a7 :: a8 :: a9 :: a10 :: a11 :: a12 :: a13 :: a14 :: a15 :: a16 :: a17 :: a18 :: a19 :: a20 :: a21 :: a22 :: a23 :: a24 :: a25 :: a26 :: some x :: r) H := ⟨x, rfl, h⟩
end Rd

set_option Elab.async false
set_option linter.all false
set_option maxRecDepth 100000
/-! dicts whose keys are ints: what a reading asks of them, over lists of pairs -/
namespace L2
open PySem PySem.Spec PyProof.Rows
section
variable {X : Cx}
/-- name = {..} on one line, the name a local: the dict comprehension's form of the rule for a list -/
theorem ps_setDc {i : Nat} {y : Str} {py : Pos} {kx vx tg iter : Expr} {ifs : List Expr} {scope : Scope} {own : List (Str × Nat)} {pos spos : Pos} {wi : TI} {g : TG} {tt : TT} {tk tv : TE} (hc : X.calm = true) (hN : X.N.Nodup) (hy : X.N[i]? = some y) (hyl : X.env.scope.names.lookup y = some .local)
    (hsw : swapsWith (.DictComp kx vx [⟨tg, iter, ifs, 0⟩] scope pos) (some (.Name y py)) spos.line X.env = pure true) (hi : PI X tg iter wi) (ok : BlkOk X.N X.env.scope scope own)
    (hg : ∀ (s : Shared) (H : Hp) (C : Addr) (cl : List (Str × Addr)) (fp : List Addr), PG (X.blk s H scope (compEnvC scope cl C X.env) fp) tg g) (ht : ∀ (s : Shared) (H : Hp) (C : Addr) (cl : List (Str × Addr)) (fp : List Addr), PTs (X.blk s H scope (compEnvC scope cl C X.env) fp) ifs tt)
    (hk : ∀ (s : Shared) (H : Hp) (C : Addr) (cl : List (Str × Addr)) (fp : List Addr), PE (X.blk s H scope (compEnvC scope cl C X.env) fp) kx tk)
    (he : ∀ (s : Shared) (H : Hp) (C : Addr) (cl : List (Str × Addr)) (fp : List Addr), PE (X.blk s H scope (compEnvC scope cl C X.env) fp) vx tv) (hs : ∀ x, foldedSetIterable iter X.env x = pure x := by intro _; rfl) :
    PS X (.Assign [.Name y py] (.DictComp kx vx [⟨tg, iter, ifs, 0⟩] scope pos) spos) (tAsg (tDc wi g tt tk tv (own.map (·.2))) (gName i)) := by
  refine ⟨fun pins s σ H D I h => ?_⟩
  rw [exec_Assign_Name_used _ _ _ _ hsw]
  refine wpAny_bind (wpAny_standAt (wpAny_bind ?_))
  show wpAny _ X.A (do let _ ← comprehension (.DictComp kx vx [⟨tg, iter, ifs, 0⟩] scope pos) scope X.env (firstIterPos [⟨tg, iter, ifs, 0⟩] pos) newDict false (eval iter X.env) (some (assign (.Name y py) X.env))) _ _ s
  have h : tDc wi g tt tk tv (own.map (·.2)) σ H (fun x H1 => gName i x σ H1 D.nx) := h
  refine wpAny_bind (thn (dc_core (Qf := fun _ s' => SP X pins D .next s') hc hN I hi ok hg ht hk he hs h fun L C s' m H' I' q hn f => ?_) fun _ s' hq => wpAny_pure (wpAny_pure hq))
  show wpAny _ _ (assign (.Name y py) X.env (.ref L)) _ _ _
  refine wpAny_assign_Name (store_ok2 (v := V.ref L) I' hN hy (.inl hyl) rfl (fun s2 I2 ⟨a, sb, ha⟩ => ?_) (.inr hyl))
  obtain ⟨f0, f1, f2, f3, f4, f5⟩ := f
  have haC : C ≠ a := by
    rcases ha with z | z
    · rw [z]; exact f1
    · exact fun e => f4 y a z e.symm
  refine ⟨m, hn.sameBut sb haC, fun h3 sb3 => ?_⟩
  exact ⟨_, H', I2.turned (t' := s2.toks) (fun b o hb e => (sb3.2 b hb).trans e) f0 f1 f3 f4 f5, q⟩
theorem sw_trueD {kx vx : Expr} {gs : List Comprehension} {scope : Scope} {pos py : Pos} {y : Str} {l : Nat} {env : Env} (hk : env.scope.kind = .function) (hy : env.scope.names.lookup y = some .local) (hl : (py.line == pos.line) = true)
    (ha : (scope.names.any fun (n, k) => n == y && (k == .local || k == .cell)) = false) : swapsWith (.DictComp kx vx gs scope pos) (some (.Name y py)) l env = pure true := by
  have ky : env.kindOf y = some .local := hy
  have hb : env.blockKind = .function := by unfold Env.blockKind; rw [hk]; rfl
  unfold swapsWith
  simp only [hb, ky, ha, Expr.pos, hl]
  rfl
end
end L2
namespace Rd
open PySem PySem.Spec PyProof.Rows L2
variable {K : PySem.W.Frag} {σ : L2.St} {H : Hp} {D : Ends} {Q : VK} {ta tb te tc td ty tx : TE} {x y v : V}
/-- a dict of ints to values, in order -/
abbrev DI (m : List (Int × V)) : HO := .dK (m.map fun p => (Sum.inl p.1, p.2))
def lk (m : List (Int × V)) (k : Int) : Option V := (m.find? fun p => decide (p.1 = k)).map (·.2)
def pt (m : List (Int × V)) (k : Int) (v : V) : List (Int × V) := if (m.any fun p => decide (p.1 = k)) = true then m.map (fun p => if p.1 = k then (p.1, v) else p) else m ++ [(k, v)]
theorem valV_di (m : List (Int × V)) (k : Int) : valV (m.map fun p => ((Sum.inl p.1 : Key), p.2)) (Sum.inl k) = lk m k := by
  unfold valV lk
  induction m with
  | nil => rfl
  | cons a r ih =>
    rw [List.map_cons, List.find?_cons, List.find?_cons]
    by_cases h : a.1 = k
    · have e : decide ((Sum.inl a.1 : Key) = Sum.inl k) = true := decide_eq_true (by rw [h])
      rw [e, decide_eq_true h]; rfl
    · have e : decide ((Sum.inl a.1 : Key) = Sum.inl k) = false := decide_eq_false fun z => h (Sum.inl.inj z)
      rw [e, decide_eq_false h]; exact ih
theorem putK_di (m : List (Int × V)) (k : Int) (v : V) : putK (m.map fun p => ((Sum.inl p.1 : Key), p.2)) (Sum.inl k) v = (pt m k v).map fun p => ((Sum.inl p.1 : Key), p.2) := by
  have e : ∀ p : Int × V, decide ((Sum.inl p.1 : Key) = Sum.inl k) = decide (p.1 = k) := fun p => by
    by_cases h : p.1 = k
    · rw [decide_eq_true h, decide_eq_true (by rw [h])]
    · rw [decide_eq_false h, decide_eq_false fun z => h (Sum.inl.inj z)]
  unfold putK pt
  rw [List.any_map]
  have e2 : (m.any ((fun kv : Key × V => decide (kv.1 = Sum.inl k)) ∘ fun p => ((Sum.inl p.1 : Key), p.2))) = m.any fun p => decide (p.1 = k) := by
    congr 1; funext p; exact e p
  rw [e2]
  split
  · rw [List.map_map, List.map_map]
    congr 1; funext p
    show (if (Sum.inl p.1 : Key) = Sum.inl k then ((Sum.inl p.1 : Key), v) else (Sum.inl p.1, p.2)) = _
    by_cases h : p.1 = k
    · simp [h]
    · have h2 : ¬ (Sum.inl p.1 : Key) = Sum.inl k := fun z => h (Sum.inl.inj z)
      simp [h]
  · rw [List.map_append]; rfl
theorem get_di {a : Addr} {m : List (Int × V)} {k : Int} (h : Rd H a (DI m)) : DGet H a (.int k) (lk m k) := .inl ⟨_, Sum.inl k, h, rfl, (valV_di m k).symm⟩
theorem rd_of {a : Addr} {u : HO} (h : H a = some u) : L2.Rd H a u := .inl h
theorem rd_fz {a : Addr} {u : HO} {o : Obj} (h : H a = some (.frz o u)) : L2.Rd H a u := .inr ⟨o, h⟩
theorem lk_pt (m : List (Int × V)) (k k' : Int) (v : V) : lk (pt m k v) k' = if k' = k then some v else lk m k' := by
  unfold pt
  split
  · rename_i c
    unfold lk
    induction m with
    | nil => simp at c
    | cons a r ih =>
      rw [List.map_cons, List.find?_cons, List.find?_cons]
      by_cases h : a.1 = k
      · rw [if_pos h]
        by_cases h2 : k' = k
        · rw [if_pos h2, decide_eq_true (by rw [h, h2])]; rfl
        · have e : ¬ a.1 = k' := fun z => h2 (by rw [← z, h])
          rw [if_neg h2, decide_eq_false e]
          have e2 : List.map (fun p => if p.1 = k then (p.1, v) else p) r = List.map (fun p => if p.1 = k then (p.1, v) else p) r := rfl
          have : (List.find? (fun p => decide (p.1 = k')) (List.map (fun p => if p.1 = k then (p.1, v) else p) r)).map (·.2) = (List.find? (fun p => decide (p.1 = k')) r).map (·.2) := by
            clear ih c e2
            induction r with
            | nil => rfl
            | cons b r ih =>
              rw [List.map_cons, List.find?_cons, List.find?_cons]
              by_cases h3 : b.1 = k
              · rw [if_pos h3, decide_eq_false (fun z : b.1 = k' => h2 (by rw [← z, h3]))]; exact ih
              · rw [if_neg h3]
                by_cases h4 : b.1 = k'
                · rw [decide_eq_true h4]
                · rw [decide_eq_false h4]; exact ih
          exact this
      · rw [if_neg h]
        have c2 : (r.any fun p => decide (p.1 = k)) = true := by
          rw [List.any_cons, decide_eq_false h, Bool.false_or] at c; exact c
        by_cases h4 : a.1 = k'
        · have e : ¬ k' = k := fun z => h (by rw [h4, z])
          rw [decide_eq_true h4, if_neg e]
        · rw [decide_eq_false h4]; exact ih c2
  · rename_i c
    unfold lk
    rw [List.find?_append]
    have nk : ∀ p ∈ m, ¬ p.1 = k := fun p hp z => c (List.any_eq_true.mpr ⟨p, hp, decide_eq_true z⟩)
    by_cases h2 : k' = k
    · rw [if_pos h2, h2]
      have e : List.find? (fun p => decide (p.1 = k)) m = none := List.find?_eq_none.mpr fun p hp z => nk p hp (of_decide_eq_true z)
      rw [e]; simp
    · rw [if_neg h2]
      have e : ¬ k = k' := fun z => h2 z.symm
      have e2 : List.find? (fun p : Int × V => decide (p.1 = k')) [(k, v)] = none := by simp [e]
      rw [e2, Option.or_none]
theorem pt_len {m : List (Int × V)} {k : Int} {v : V} : (pt m k v).length ≤ m.length + 1 := by
  unfold pt
  split <;> simp
/-! ### expressions -/
def NewD (Q : VK) (H : Hp) : Prop := ∀ p, H p = none → Q (.ref p) (upd H p (.dK []))
theorem dnew (h : NewD Q H) : tDNewK σ H Q := h
theorem nwD (h : ∀ p H', H p = none → Same H H' → H' p = some (DI []) → Q (.ref p) H') : NewD Q H := fun p np => h p _ np (same_new np) upd_same
def DinG (Q : VK) (x y : V) (H : Hp) : Prop := ∃ a o, x = .ref a ∧ DGet H a y o ∧ Q (.bl o.isSome) H
theorem din (h : ty σ H fun y H1 => td σ H1 fun x H2 => DinG Q x y H2) : tDIn ty td σ H Q := h
theorem dinI {a : Addr} {m : List (Int × V)} {k : Int} (h : L2.Rd H a (DI m)) (q : Q (.bl (lk m k).isSome) H) : DinG Q (.ref a) (.int k) H := ⟨a, _, rfl, get_di h, q⟩
def DnotG (Q : VK) (x y : V) (H : Hp) : Prop := ∃ a o, x = .ref a ∧ DGet H a y o ∧ Q (.bl (!o.isSome)) H
theorem dnot (h : ty σ H fun y H1 => td σ H1 fun x H2 => DnotG Q x y H2) : tDNotIn ty td σ H Q := h
theorem dnotI {a : Addr} {m : List (Int × V)} {k : Int} (h : L2.Rd H a (DI m)) (q : Q (.bl (!(lk m k).isSome)) H) : DnotG Q (.ref a) (.int k) H := ⟨a, _, rfl, get_di h, q⟩
def DgG (Q : VK) (x y : V) (H : Hp) : Prop := ∃ a v, x = .ref a ∧ DGet H a y (some v) ∧ Q v H
theorem dget (h : td σ H fun x H1 => ty σ H1 fun y H2 => DgG Q x y H2) : tDGet td ty σ H Q := h
theorem dgetI {a : Addr} {m : List (Int × V)} {k : Int} (h : L2.Rd H a (DI m)) (e : lk m k = some v) (q : Q v H) : DgG Q (.ref a) (.int k) H := ⟨a, v, rfl, e ▸ get_di h, q⟩
def Dg2G (Q : VK) (a : Addr) (y z : V) (H : Hp) : Prop := ∃ o, DGet H a y o ∧ Q (o.getD z) H
theorem dget2 (h : td σ H fun x H1 => ∃ a, x = .ref a ∧ IsD H1 a ∧ ty σ H1 fun y H2 => tx σ H2 fun z H3 => Dg2G Q a y z H3) : tDGet2 td ty tx σ H Q := h
theorem isd {a : Addr} {m : List (Int × V)} {A : Prop} (h : H a = some (DI m)) (q : A) : IsD H a ∧ A := ⟨.inl ⟨_, .inl h⟩, q⟩
theorem dget2I {a : Addr} {m : List (Int × V)} {k : Int} {z : V} (h : L2.Rd H a (DI m)) (q : Q ((lk m k).getD z) H) : Dg2G Q a (.int k) z H := ⟨_, get_di h, q⟩
def DpG (D : Ends) (σ : L2.St) (x y v : V) (H : Hp) : Prop := ∃ a H4, x = .ref a ∧ DPut H a y v H4 ∧ D.nx σ H4
theorem dput {tv : TE} (h : tv σ H fun v H1 => td σ H1 fun x H2 => ty σ H2 fun y H3 => DpG D σ x y v H3) : sDPut td ty tv D σ H := h
theorem dputI {a : Addr} {m : List (Int × V)} {k : Int} (h : H a = some (DI m)) (l : m.length < 100000) (q : D.nx σ (upd H a (DI (pt m k v)))) : DpG D σ (.ref a) (.int k) v H :=
  ⟨a, _, rfl, .inl ⟨_, Sum.inl k, h, rfl, by rw [List.length_map]; exact szl l, rfl⟩, by rw [putK_di]; exact q⟩
/-- dict(d) -/
def DictOf (Q : VK) (vs : List V) (H : Hp) : Prop := ∃ (a : Addr) (kvs : List (Key × V)), vs = [.ref a] ∧ L2.Rd H a (.dK kvs) ∧ ∀ p, H p = none → Q (.ref p) (upd H p (.dK kvs))
theorem cbDictOf {tr : TA} (h : tr σ H (DictOf Q)) : tCB (fun xs H Q => ∃ (a : Addr) (kvs : List (Key × V)), xs = [.ref a] ∧ L2.Rd H a (.dK kvs) ∧ ∀ p, H p = none → Q (.ref p) (upd H p (.dK kvs))) tr σ H Q := h
theorem dictOf {a : Addr} {m : List (Int × V)} (s : H a = some (DI m)) (h : ∀ p H', H p = none → Same H H' → H' p = some (DI m) → Q (.ref p) H') : DictOf Q [.ref a] H := ⟨a, _, rfl, .inl s, fun p np => h p _ np (same_new np) upd_same⟩
theorem isi_dd {n : Addr} {m : List (Int × V)} (h : H n = some (DI m)) (q : Q (.bl true) H) : rIsi K [.ref n, .ty "dict"] H Q := isi (.base (.dK h)) (by decide +kernel) q
/-! ### == -/
theorem neDict {a b : Addr} {m n : List (Int × V)} (ea : H a = some (DI m)) (eb : H b = some (DI n)) (l : m.length = n.length) (e : ∀ p ∈ m, lk n p.1 = some p.2 ∧ flatB p.2 = true) (q : Q (.bl false) H) : rNeDA (.ref a) (.ref b) H Q :=
  ⟨a, b, _, _, rfl, rfl, ea, eb, by rw [List.length_map, List.length_map]; exact l, fun p hp => by
    obtain ⟨x, hx, rfl⟩ := List.mem_map.mp hp
    rw [valV_di]; exact e x hx, q⟩
theorem eqDict {a b : Addr} {m n : List (Int × V)} (ea : H a = some (DI m)) (eb : H b = some (DI n)) (l : m.length = n.length) (e : ∀ p ∈ m, lk n p.1 = some p.2 ∧ flatB p.2 = true) (q : Q (.bl true) H) : rEqDA (.ref a) (.ref b) H Q :=
  ⟨a, b, _, _, rfl, rfl, ea, eb, by rw [List.length_map, List.length_map]; exact l, fun p hp => by
    obtain ⟨x, hx, rfl⟩ := List.mem_map.mp hp
    rw [valV_di]; exact e x hx, q⟩
/-! ### walks -/
variable {R : It → Hp → Prop}
theorem iitems (h : te σ H fun x H1 => ∃ d o kvs, x = .ref d ∧ H1 d = some (.frz o (.dK kvs)) ∧ R (Iti d o kvs) H1) : iItems te σ H R := h
theorem itA {d : Addr} {o : Obj} {kvs : List (Key × V)} {P : Addr → Obj → List (Key × V) → Prop} (h : H d = some (.frz o (.dK kvs))) (q : P d o kvs) : ∃ d' o' kvs', V.ref d = .ref d' ∧ H d' = some (.frz o' (.dK kvs')) ∧ P d' o' kvs' := ⟨d, o, kvs, rfl, h, q⟩
theorem ikeys (h : te σ H fun x H1 => ∃ d o, x = .ref d ∧ ((∃ kvs, H1 d = some (.frz o (.dK kvs)) ∧ R (Itk d o kvs) H1) ∨ ∃ kvs, H1 d = some (.frz o (.dT kvs)) ∧ R (Itkt d o kvs) H1)) : iKeys te σ H R := h
theorem ikA {d : Addr} {o : Obj} {kvs : List (Key × V)} {P : Addr → Obj → List (Key × V) → Prop} {B : Addr → Obj → Prop} (h : H d = some (.frz o (.dK kvs))) (q : P d o kvs) : ∃ d' o', V.ref d = .ref d' ∧ ((∃ kvs', H d' = some (.frz o' (.dK kvs')) ∧ P d' o' kvs') ∨ B d' o') := ⟨d, o, rfl, .inl ⟨kvs, h, q⟩⟩
theorem lockS {t : TS} {d : Addr} {m : List (Int × V)} (h : H d = some (DI m)) (q : ∀ od, t ⟨fun σ' H' => H' d = some (.frz od (DI m)) ∧ D.nx σ' (upd H' d (DI m)), fun v H' => H' d = some (.frz od (DI m)) ∧ D.rt v (upd H' d (DI m)), fun σ' H' => H' d = some (.frz od (DI m)) ∧ D.bk σ' (upd H' d (DI m)), fun σ' H' => H' d = some (.frz od (DI m)) ∧ D.ct σ' (upd H' d (DI m))⟩ σ (upd H d (.frz od (DI m)))) : tLock t D σ H :=
  ⟨d, _, h, trivial, q⟩
theorem lockE {t : TE} {d : Addr} {m : List (Int × V)} (h : H d = some (DI m)) (q : ∀ od, t σ (upd H d (.frz od (DI m))) fun v H' => H' d = some (.frz od (DI m)) ∧ Q v (upd H' d (DI m))) : tLockE t σ H Q := ⟨d, _, h, trivial, q⟩
/-- the dict given back: all is kept -/
theorem unlock {H' : Hp} {d : Addr} {u : HO} (h : H d = some u) (b : But d H H') : Same H (upd H' d u) := fun c o e => by
  by_cases z : c = d
  · subst z; rw [upd_same]; exact h.symm.trans e
  · rw [upd_ne z]; exact b c o z e
theorem lock {d : Addr} {u : HO} : But d H (upd H d u) := But.at_
/-- the i-th pair of a walk over items: a new tuple -/
theorem items_at {m : List (Int × V)} {i : Nat} {x : V} {H H' : Hp} (y : YPair (fun i => ((m.map fun p => ((Sum.inl p.1 : Key), p.2))[i]?).map fun kv => kV kv.1) (fun i => ((m.map fun p => ((Sum.inl p.1 : Key), p.2))[i]?).map Prod.snd) i H x H') :
    ∃ (T : Addr) (p : Int × V), m[i]? = some p ∧ x = .ref T ∧ H T = none ∧ H' = upd H T (.tup [.int p.1, p.2]) := by
  obtain ⟨T, a, b, e1, e2, e3, e4, e5⟩ := y
  dsimp only at e4 e5
  rw [List.getElem?_map] at e4 e5
  cases e : m[i]? with
  | none => rw [e] at e4; cases e4
  | some p =>
    rw [e] at e4 e5
    cases e4; cases e5
    exact ⟨T, p, rfl, e1, e2, e3⟩
theorem keys_at {m : List (Int × V)} {i : Nat} {x : V} {H H' : Hp} (y : H' = H ∧ ∃ k v, (m.map fun p => ((Sum.inl p.1 : Key), p.2))[i]? = some (k, v) ∧ x = kV k) : H' = H ∧ ∃ p : Int × V, m[i]? = some p ∧ x = .int p.1 := by
  obtain ⟨e, k, v, h, rfl⟩ := y
  rw [List.getElem?_map] at h
  cases e2 : m[i]? with
  | none => rw [e2] at h; cases h
  | some p => rw [e2] at h; cases h; exact ⟨e, p, rfl, rfl⟩
/-! ### comprehensions -/
theorem dc {wi : TI} {g : TG} {tt : TT} {tk tv : TE} {ws : List Nat} (h : wi σ H fun J H1 => ∀ D, H1 D = none → ∃ W : Nat → Nat → Hp → Prop, (∃ m, W 0 m (upd H1 D (.dK []))) ∧ ∀ i m H, W i m H →
  (J.stop i H ∧ Q (.ref D) H) ∨ (J.go i H ∧ ∃ Nx : Hp → Prop, (∀ H', Nx H' → ∃ m', m' < m ∧ W (i + 1) m' H') ∧ ∀ x H', J.yld i H x H' → g x (wipe σ ws) H' fun σ2 H2 => wipe σ2 ws = wipe σ ws ∧ tt σ2 H2 fun b H3 =>
    if b = true then tk σ2 H3 fun y H4 => tv σ2 H4 fun z H5 => ∃ kvs k, y = kV k ∧ H5 D = some (.dK kvs) ∧ kvs.length < sizeLine ∧ Nx (upd H5 D (.dK (putK kvs k z))) else Nx H3)) : tDc wi g tt tk tv ws σ H Q := h
theorem dc_it {J : It} {n : Nat} {G : Hp → Prop} {Y : Nat → Hp → V → Hp → Prop} (w : Walk J n G Y) {g : TG} {tt : TT} {tk tv : TE} {vs : List Nat} {H1 : Hp} {d : Addr} {Qd : Hp → Prop} (Pv : Nat → Hp → Prop) (h0 : Pv 0 (upd H1 d (DI []))) (hG : ∀ i H, i ≤ n → Pv i H → G H)
    (hs : ∀ i x H H' (Kt : V → V → Hp → Prop) (Kn : Hp → Prop), i < n → Pv i H → Y i H x H' → (∀ m k z H5, H5 d = some (DI m) → m.length < 100000 → Pv (i + 1) (upd H5 d (DI (pt m k z))) → Kt (.int k) z H5) → (∀ H3, Pv (i + 1) H3 → Kn H3) →
      g x (wipe σ vs) H' fun σ2 H2 => wipe σ2 vs = wipe σ vs ∧ tt σ2 H2 fun b H3 => if b = true then tk σ2 H3 fun y H4 => tv σ2 H4 fun z H5 => Kt y z H5 else Kn H3)
    (hd : ∀ H, Pv n H → Qd H) :
    ∃ W : Nat → Nat → Hp → Prop, (∃ m, W 0 m (upd H1 d (.dK []))) ∧ ∀ i m H, W i m H →
      (J.stop i H ∧ Qd H) ∨ (J.go i H ∧ ∃ Nx : Hp → Prop, (∀ H', Nx H' → ∃ m', m' < m ∧ W (i + 1) m' H') ∧ ∀ x H', J.yld i H x H' → g x (wipe σ vs) H' fun σ2 H2 => wipe σ2 vs = wipe σ vs ∧ tt σ2 H2 fun b H3 =>
        if b = true then tk σ2 H3 fun y H4 => tv σ2 H4 fun z H5 => ∃ kvs k, y = kV k ∧ H5 d = some (.dK kvs) ∧ kvs.length < sizeLine ∧ Nx (upd H5 d (.dK (putK kvs k z))) else Nx H3) := by
  refine ⟨fun i m H => m = n - i ∧ i ≤ n ∧ Pv i H, ⟨n, by simp, Nat.zero_le _, h0⟩, ?_⟩
  rintro i m H ⟨rfl, hi, p⟩
  have q := hG i H hi p
  by_cases hlt : i < n
  · refine .inr ⟨w.goes i H hlt q, Pv (i + 1), fun H' p' => ⟨n - (i + 1), by omega, rfl, hlt, p'⟩, fun x H' y => ?_⟩
    exact hs i x H H' (fun y z H5 => ∃ kvs k, y = kV k ∧ H5 d = some (.dK kvs) ∧ kvs.length < sizeLine ∧ Pv (i + 1) (upd H5 d (.dK (putK kvs k z)))) _ hlt p (w.yields i H x H' hlt q y)
      (fun m k z H5 h5 hl r => ⟨_, Sum.inl k, rfl, h5, by rw [List.length_map]; exact szl hl, by rw [putK_di]; exact r⟩) fun _ h => h
  · have e : i = n := by omega
    subst e
    exact .inl ⟨w.stops H q, hd H p⟩
end Rd

set_option Elab.async false
set_option linter.all false
set_option maxRecDepth 100000
/-! dicts from ints to ints -/
namespace Rd
open PySem PySem.Spec PyProof.Rows L2
abbrev iv (p : Int × Int) : Int × V := (p.1, V.int p.2)
abbrev DN (m : List (Int × Int)) : HO := DI (m.map iv)
def lkN (m : List (Int × Int)) (k : Int) : Option Int := (m.find? fun p => decide (p.1 = k)).map (·.2)
def ptN (m : List (Int × Int)) (k v : Int) : List (Int × Int) := if (m.any fun p => decide (p.1 = k)) = true then m.map (fun p => if p.1 = k then (p.1, v) else p) else m ++ [(k, v)]
theorem lk_iv (m : List (Int × Int)) (k : Int) : lk (m.map iv) k = (lkN m k).map V.int := by
  unfold lk lkN
  induction m with
  | nil => rfl
  | cons a r ih =>
    rw [List.map_cons, List.find?_cons, List.find?_cons]
    by_cases h : a.1 = k
    · have e : decide ((iv a).1 = k) = true := decide_eq_true h
      rw [e]; rfl
    · have e : decide ((iv a).1 = k) = false := decide_eq_false h
      rw [e]; exact ih
theorem pt_iv (m : List (Int × Int)) (k v : Int) : pt (m.map iv) k (.int v) = (ptN m k v).map iv := by
  unfold pt ptN
  rw [List.any_map]
  have e2 : (m.any ((fun p : Int × V => decide (p.1 = k)) ∘ iv)) = m.any fun p => decide (p.1 = k) := rfl
  rw [e2]
  split
  · rw [List.map_map, List.map_map]
    congr 1; funext p
    show (if p.1 = k then (p.1, V.int v) else iv p) = iv (if p.1 = k then (p.1, v) else p)
    split <;> rfl
  · rw [List.map_append]; rfl
theorem lkN_some {m : List (Int × Int)} {k v : Int} (h : lkN m k = some v) : (k, v) ∈ m := by
  unfold lkN at h
  cases e : m.find? fun p => decide (p.1 = k) with
  | none => rw [e] at h; cases h
  | some p =>
    rw [e] at h
    have h1 : p.2 = v := Option.some.inj h
    have h2 : p.1 = k := by have := List.find?_some e; simpa using this
    rw [← h1, ← h2]
    exact List.mem_of_find?_eq_some e
theorem lkN_mem {m : List (Int × Int)} (nd : (m.map (·.1)).Nodup) {k v : Int} (h : (k, v) ∈ m) : lkN m k = some v := by
  induction m with
  | nil => cases h
  | cons a r ih =>
    rw [List.map_cons, List.nodup_cons] at nd
    unfold lkN
    rw [List.find?_cons]
    rcases List.mem_cons.mp h with e | h
    · subst e; rw [decide_eq_true rfl]; rfl
    · have ne : ¬ a.1 = k := fun z => nd.1 (z ▸ List.mem_map.mpr ⟨_, h, rfl⟩)
      rw [decide_eq_false ne]; exact ih nd.2 h
theorem lkN_none {m : List (Int × Int)} {k : Int} : lkN m k = none ↔ k ∉ m.map (·.1) := by
  unfold lkN
  rw [Option.map_eq_none_iff, List.find?_eq_none]
  constructor
  · intro h z
    obtain ⟨p, hp, e⟩ := List.mem_map.mp z
    exact h p hp (decide_eq_true e)
  · intro h p hp e
    exact h (List.mem_map.mpr ⟨p, hp, of_decide_eq_true e⟩)
theorem any_key {m : List (Int × Int)} {k : Int} : (m.any fun p => decide (p.1 = k)) = true ↔ k ∈ m.map (·.1) := by
  rw [List.any_eq_true]
  constructor
  · rintro ⟨p, hp, e⟩; exact List.mem_map.mpr ⟨p, hp, of_decide_eq_true e⟩
  · intro h
    obtain ⟨p, hp, e⟩ := List.mem_map.mp h
    exact ⟨p, hp, decide_eq_true e⟩
theorem ptN_new {m : List (Int × Int)} {k v : Int} (h : k ∉ m.map (·.1)) : ptN m k v = m ++ [(k, v)] := by
  unfold ptN
  rw [if_neg (fun z => h (any_key.mp z))]
theorem ptN_len {m : List (Int × Int)} {k v : Int} : (ptN m k v).length ≤ m.length + 1 := by
  unfold ptN
  split <;> simp
theorem ptN_mem {m : List (Int × Int)} {k v : Int} {p : Int × Int} (h : p ∈ ptN m k v) : p = (k, v) ∨ (p ∈ m ∧ p.1 ≠ k) := by
  unfold ptN at h
  split at h
  · obtain ⟨q, hq, rfl⟩ := List.mem_map.mp h
    by_cases e : q.1 = k
    · rw [if_pos e, e]; exact .inl rfl
    · rw [if_neg e]; exact .inr ⟨hq, e⟩
  · rename_i c
    rcases List.mem_append.mp h with h | h
    · exact .inr ⟨h, fun e => c (any_key.mpr (List.mem_map.mpr ⟨p, h, e⟩))⟩
    · exact .inl (List.mem_singleton.mp h)
theorem ptN_keys {m : List (Int × Int)} {k v : Int} (nd : (m.map (·.1)).Nodup) : ((ptN m k v).map (·.1)).Nodup := by
  by_cases h : k ∈ m.map (·.1)
  · unfold ptN
    rw [if_pos (any_key.mpr h), List.map_map]
    have e : (fun x => x.1) ∘ (fun p : Int × Int => if p.1 = k then (p.1, v) else p) = fun p => p.1 := by
      funext p; show (if p.1 = k then (p.1, v) else p).1 = p.1; split <;> rfl
    rw [e]; exact nd
  · rw [ptN_new h, List.map_append, List.nodup_append]
    exact ⟨nd, by simp, fun a ha b hb e => h (by simp at hb; rw [← hb, ← e]; exact ha)⟩
/-- a value put, against the rest and the value at the end -/
theorem ptN_rest {m : List (Int × Int)} {k v : Int} (nd : (m.map (·.1)).Nodup) : (ptN m k v).length = (m.filter fun p => decide (p.1 ≠ k)).length + 1 := by
  by_cases h : k ∈ m.map (·.1)
  · unfold ptN
    rw [if_pos (any_key.mpr h), List.length_map]
    clear v
    induction m with
    | nil => simp at h
    | cons a r ih =>
      rw [List.map_cons, List.nodup_cons] at nd
      by_cases e : a.1 = k
      · have e2 : (r.filter fun p => decide (p.1 ≠ k)) = r := List.filter_eq_self.mpr fun p hp => decide_eq_true fun z => nd.1 (by rw [e, ← z]; exact List.mem_map.mpr ⟨p, hp, rfl⟩)
        rw [List.filter_cons_of_neg (by simp [e]), e2]; rfl
      · have h2 : k ∈ r.map (·.1) := by
          rw [List.map_cons] at h
          exact (List.mem_cons.mp h).resolve_left fun z => e z.symm
        rw [List.filter_cons_of_pos (by simp [e]), List.length_cons, List.length_cons, ih nd.2 h2]
  · have e2 : (m.filter fun p => decide (p.1 ≠ k)) = m := List.filter_eq_self.mpr fun p hp => decide_eq_true fun z => h (by rw [← z]; exact List.mem_map.mpr ⟨p, hp, rfl⟩)
    rw [ptN_new h, e2]; simp
variable {K : PySem.W.Frag} {σ : L2.St} {H : Hp} {D : Ends} {Q : VK} {v : V}
theorem dinN {a : Addr} {m : List (Int × Int)} {k : Int} (h : L2.Rd H a (DN m)) (q : Q (.bl (lkN m k).isSome) H) : DinG Q (.ref a) (.int k) H := dinI h (by rw [lk_iv, Option.isSome_map]; exact q)
theorem dnotN {a : Addr} {m : List (Int × Int)} {k : Int} (h : L2.Rd H a (DN m)) (q : Q (.bl (!(lkN m k).isSome)) H) : DnotG Q (.ref a) (.int k) H := dnotI h (by rw [lk_iv, Option.isSome_map]; exact q)
theorem dgetN {a : Addr} {m : List (Int × Int)} {k n : Int} (h : L2.Rd H a (DN m)) (e : lkN m k = some n) (q : Q (.int n) H) : DgG Q (.ref a) (.int k) H := dgetI h (by rw [lk_iv, e]; rfl) q
theorem dget2N {a : Addr} {m : List (Int × Int)} {k z : Int} (h : L2.Rd H a (DN m)) (q : Q (.int ((lkN m k).getD z)) H) : Dg2G Q a (.int k) (.int z) H := dget2I h (by
  rw [lk_iv]
  cases e : lkN m k with
  | none => rw [e] at q; exact q
  | some n => rw [e] at q; exact q)
theorem dputN {a : Addr} {m : List (Int × Int)} {k n : Int} (h : H a = some (DN m)) (l : m.length < 100000) (q : D.nx σ (upd H a (DN (ptN m k n)))) : DpG D σ (.ref a) (.int k) (.int n) H :=
  dputI h (by rw [List.length_map]; exact l) (by rw [pt_iv]; exact q)
theorem neDictN {a b : Addr} {m n : List (Int × Int)} (ea : H a = some (DN m)) (eb : H b = some (DN n)) (l : m.length = n.length) (e : ∀ p ∈ m, lkN n p.1 = some p.2) (q : Q (.bl false) H) : rNeDA (.ref a) (.ref b) H Q :=
  neDict ea eb (by rw [List.length_map, List.length_map]; exact l) (fun p hp => by
    obtain ⟨x, hx, rfl⟩ := List.mem_map.mp hp
    exact ⟨by rw [lk_iv, e x hx]; rfl, rfl⟩) q
theorem eqDictN {a b : Addr} {m n : List (Int × Int)} (ea : H a = some (DN m)) (eb : H b = some (DN n)) (l : m.length = n.length) (e : ∀ p ∈ m, lkN n p.1 = some p.2) (q : Q (.bl true) H) : rEqDA (.ref a) (.ref b) H Q :=
  eqDict ea eb (by rw [List.length_map, List.length_map]; exact l) (fun p hp => by
    obtain ⟨x, hx, rfl⟩ := List.mem_map.mp hp
    exact ⟨by rw [lk_iv, e x hx]; rfl, rfl⟩) q
theorem items_atN {m : List (Int × Int)} {i : Nat} {x : V} {H H' : Hp} (y : YPair (fun i => (((m.map iv).map fun p => ((Sum.inl p.1 : Key), p.2))[i]?).map fun kv => kV kv.1) (fun i => (((m.map iv).map fun p => ((Sum.inl p.1 : Key), p.2))[i]?).map Prod.snd) i H x H') :
    ∃ (T : Addr) (p : Int × Int), m[i]? = some p ∧ x = .ref T ∧ H T = none ∧ H' = upd H T (.tup [.int p.1, .int p.2]) := by
  obtain ⟨T, p, e, a, b, c⟩ := items_at y
  rw [List.getElem?_map] at e
  cases e2 : m[i]? with
  | none => rw [e2] at e; cases e
  | some q => rw [e2] at e; cases e; exact ⟨T, q, rfl, a, b, c⟩
theorem keys_atN {m : List (Int × Int)} {i : Nat} {x : V} {H H' : Hp} (y : H' = H ∧ ∃ k v, ((m.map iv).map fun p => ((Sum.inl p.1 : Key), p.2))[i]? = some (k, v) ∧ x = kV k) : H' = H ∧ ∃ p : Int × Int, m[i]? = some p ∧ x = .int p.1 := by
  obtain ⟨e0, p, e, a⟩ := keys_at y
  rw [List.getElem?_map] at e
  cases e2 : m[i]? with
  | none => rw [e2] at e; cases e
  | some q => rw [e2] at e; cases e; exact ⟨e0, q, rfl, a⟩
end Rd

set_option Elab.async false
set_option linter.all false
set_option maxRecDepth 100000
namespace Rd
open PySem PySem.Spec PyProof.Rows L2
variable {K : PySem.W.Frag} {σ : L2.St} {H : Hp} {D : Ends} {Q : VK} {ta tb te tv : TE} {x y v : V} {tr : TA} {f m : Str} {C : Addr} {sp : Sp} {dvs : List V} {E : XK}
/-! ### objects of own classes -/
def FldG (K : PySem.W.Frag) (x : V) (f : Str) (Q : VK) (H : Hp) : Prop := ∃ a C dx fs v, x = .ref a ∧ H a = some (.ins C dx fs) ∧ Cls K C ∧ NoAttr K C f ∧ fs.lookup f = some v ∧ Q v H
theorem fld (h : te σ H fun x H1 => FldG K x f Q H1) : tFld K te f σ H Q := h
theorem fldI {a dx : Addr} {fs : List (Str × V)} (h : H a = some (.ins C dx fs)) (c : Cls K C) (n : NoAttr K C f) (e : fs.lookup f = some v) (q : Q v H) : FldG K (.ref a) f Q H := ⟨a, C, dx, fs, v, rfl, h, c, n, e, q⟩
def SfG (K : PySem.W.Frag) (x : V) (f : Str) (y : V) (D : Ends) (σ : L2.St) (H : Hp) : Prop := ∃ a C dx fs, x = .ref a ∧ H a = some (.ins C dx fs) ∧ Cls K C ∧ NoAttr K C f ∧ fs.length < 1000 ∧ D.nx σ (upd H a (.ins C dx (putF f y fs)))
theorem sfld (h : tv σ H fun y H1 => ta σ H1 fun x H2 => SfG K x f y D σ H2) : sFld K ta tv f D σ H := h
theorem sfldI {a dx : Addr} {fs : List (Str × V)} (h : H a = some (.ins C dx fs)) (c : Cls K C) (n : NoAttr K C f) (l : fs.length < 1000) (q : D.nx σ (upd H a (.ins C dx (putF f y fs)))) : SfG K (.ref a) f y D σ H := ⟨a, C, dx, fs, rfl, h, c, n, l, q⟩
def MtG (C : Addr) (m : Str) (sp : Sp) (dvs : List V) (E : XK) (t : TA) (σ : L2.St) (Q : VK) (x : V) (H : Hp) : Prop := ∃ a dx fs, x = .ref a ∧ H a = some (.ins C dx fs) ∧ fs.lookup m = none ∧ t σ H fun vs H2 => sp (x :: (vs ++ dvs)) H2 Q E
theorem meth (h : ta σ H fun x H1 => MtG C m sp dvs E tr σ Q x H1) : tMeth C m sp dvs E ta tr σ H Q := h
theorem methI {a dx : Addr} {fs : List (Str × V)} (h : H a = some (.ins C dx fs)) (n : fs.lookup m = none) (q : tr σ H fun vs H2 => sp (.ref a :: (vs ++ dvs)) H2 Q E) : MtG C m sp dvs E tr σ Q (.ref a) H := ⟨a, dx, fs, rfl, h, n, q⟩
def MkG (C : Addr) (sp : Sp) (dvs : List V) (E : XK) (Q : VK) (vs : List V) (H1 : Hp) : Prop := ∀ x dx, H1 x = none → H1 dx = none → dx ≠ x → sp (.ref x :: (vs ++ dvs)) (upd (upd H1 dx (.own x)) x (.ins C dx [])) (fun v H2 => v = .non ∧ Q (.ref x) H2) E
theorem make (h : tr σ H fun vs H1 => MkG C sp dvs E Q vs H1) : tMake C sp dvs E tr σ H Q := h
theorem popI {l : Addr} {xs : List V} (h : H l = some (.lst xs)) (e : xs[xs.length - 1]? = some y) (q : Q y (upd H l (.lst xs.dropLast))) : rPop (.ref l) [] H Q := ⟨l, xs, y, rfl, rfl, h, e, q⟩
theorem maxL {a : Addr} {ns : List Int} (h : H a = some (.lst (ns.map V.int))) (l : 0 < ns.length) (q : ∀ m, m ∈ ns → (∀ y, y ∈ ns → y ≤ m) → Q (.int m) H) : rMax K [.ref a] H Q := ⟨a, ns, rfl, SqL.of h, l, q⟩
theorem anyL {a : Addr} {bs : List Bool} (h : H a = some (.lst (bs.map V.bl))) (q : Q (.bl (bs.any id)) H) : rAny K [.ref a] H Q := ⟨a, bs, rfl, SqL.of h, q⟩
theorem sumL {a : Addr} {ns : List Int} (h : H a = some (.lst (ns.map V.int))) (q : Q (.int ns.sum) H) : rSum K [.ref a] H Q := ⟨a, ns, rfl, SqL.of h, q⟩
variable {R : It → Hp → Prop}
theorem izip (h : tr σ H fun vs H1 => ∃ a b xs ys, vs = [.ref a, .ref b] ∧ ((SqL K H1 a xs ∧ SqL K H1 b ys ∧ R (Itz K a b) H1) ∨ (SqT K H1 a xs ∧ SqT K H1 b ys ∧ R (RZ.ItzT K a b) H1))) : RZ.iZipA K tr σ H R := h
theorem izI {a b : Addr} {xs ys : List V} {A : Addr → Addr → Prop} {B : Addr → Addr → Prop} (h1 : H a = some (.lst xs)) (h2 : H b = some (.lst ys)) (q : A a b) : ∃ a' b' xs ys, [V.ref a, .ref b] = [.ref a', .ref b'] ∧ ((SqL K H a' xs ∧ SqL K H b' ys ∧ A a' b') ∨ (SqT K H a' xs ∧ SqT K H b' ys ∧ B a' b')) := ⟨a, b, xs, ys, rfl, .inl ⟨SqL.of h1, SqL.of h2, q⟩⟩
end Rd

set_option Elab.async false
set_option linter.all false
set_option maxRecDepth 100000
namespace L2
open PySem PySem.Spec PyProof.Rows
/-- max(xs, default=d) of a list of ints -/
def rMaxDf (K : PySem.W.Frag) : List V → List V → Hp → VK → Prop := fun vs zs H Q => ∃ (a : Addr) (ns : List Int) (d : V), vs = [V.ref a] ∧ zs = [d] ∧ SqL K H a (ns.map V.int) ∧ (ns = [] → Q d H) ∧ ∀ m, m ∈ ns → (∀ y ∈ ns, y ≤ m) → Q (.int m) H
theorem maxOf_spec (y : Int) (ys : List Int) : PySem.W.maxOf y ys ∈ y :: ys ∧ ∀ z ∈ y :: ys, z ≤ PySem.W.maxOf y ys := by
  unfold PySem.W.maxOf
  induction ys generalizing y with
  | nil => simp
  | cons b r ih =>
    obtain ⟨h1, h2⟩ := ih (if PySem.W.DatumOrd.lt y b = true then b else y)
    have e : (PySem.W.DatumOrd.lt y b = true) = (y < b) := by
      show (decide (y < b) = true) = (y < b)
      simp
    rw [List.foldl_cons]
    refine ⟨?_, fun z m => ?_⟩
    · rcases List.mem_cons.mp h1 with h | h
      · rw [h]
        split
        · exact List.mem_cons_of_mem _ List.mem_cons_self
        · exact List.mem_cons_self
      · exact List.mem_cons_of_mem _ (List.mem_cons_of_mem _ h)
    · have h0 := h2 _ List.mem_cons_self
      by_cases c : y < b
      · rw [if_pos (by rw [e]; exact c)] at h0 h2 ⊢
        rcases List.mem_cons.mp m with rfl | m
        · omega
        rcases List.mem_cons.mp m with rfl | m
        · exact h0
        · exact h2 z (List.mem_cons_of_mem _ m)
      · rw [if_neg (by rw [e]; exact c)] at h0 h2 ⊢
        rcases List.mem_cons.mp m with rfl | m
        · exact h0
        rcases List.mem_cons.mp m with rfl | m
        · omega
        · exact h2 z (List.mem_cons_of_mem _ m)
theorem cr_maxDf {X : Cx} (hc : X.calm = true) (hu : X.A.units + 65 < cLine) : CallRK X (.builtin "max") [Str.ofString "default"] (rMaxDf X.K) := by
  intro pins s σ H vs zs us ws Q I r rz h
  obtain ⟨a, ns, d, rfl, rfl, hs, h0, h1⟩ := h
  obtain ⟨its, rv, hl, _⟩ := I.list hs
  rw [Vals.ref1 r]
  cases rz with
  | cons rd rt =>
    rename_i ud ut
    cases rt
    show wpAny _ _ (call (.builtin "max") [.ref a] [(Str.ofString "default", ud)]) _ _ s
    refine PySem.W.max_list_datum_default (α := Int) (xs := ns) (I.ok.hd hc) hl.isList (PySem.W.HoldAll.of_ints rv.ints) (by show X.A.units + 1 + 0 < cLine; omega) (fun e h' tk hk => ⟨d, H, I.kept hk, rd, h0 e⟩) fun y ys i v h' tk e hi hv hk => ?_
    obtain ⟨as, rd2⟩ := hv
    subst e
    obtain ⟨m1, m2⟩ := maxOf_spec y ys
    generalize hm : PySem.W.maxOf y ys = m at *
    have rd3 : Reads h' v (.int m) as := rd2
    cases rd3
    exact ⟨.int m, H, I.kept hk, ⟨_, rfl⟩, h1 m m1 m2⟩
end L2
namespace Rd
open PySem PySem.Spec PyProof.Rows L2
variable {K : PySem.W.Frag} {σ : L2.St} {H : Hp} {D : Ends} {Q : VK} {td ty tx : TE} {x y v : V} {tr tk : TA}
def MxG (K : PySem.W.Frag) (Q : VK) (vs zs : List V) (H : Hp) : Prop := rMaxDf K vs zs H Q
theorem ckw {r : List V → List V → Hp → VK → Prop} (h : tr σ H fun vs H1 => tk σ H1 fun zs H2 => r vs zs H2 Q) : tCKw r tr tk σ H Q := h
theorem maxDf {a : Addr} {ns : List Int} {d : V} (h : H a = some (.lst (ns.map V.int))) (h0 : ns = [] → Q d H) (h1 : ∀ m, m ∈ ns → (∀ y ∈ ns, y ≤ m) → Q (.int m) H) : rMaxDf K [.ref a] [d] H Q := ⟨a, ns, d, rfl, rfl, SqL.of h, h0, h1⟩
def StG (a : Addr) (y z : V) (Q : VK) (H3 : Hp) : Prop := ∃ (kvs : List (Key × V)) (k : Key), H3 a = some (.dK kvs) ∧ y = kV k ∧ kvs.length < sizeLine ∧ (∀ v, valV kvs k = some v → Q v H3) ∧ (valV kvs k = none → Q z (upd H3 a (.dK (putK kvs k z))))
theorem dsetd (h : td σ H fun x H1 => ∃ a, x = .ref a ∧ IsD H1 a ∧ ty σ H1 fun y H2 => tx σ H2 fun z H3 => StG a y z Q H3) : tDSetd td ty tx σ H Q := h
theorem dsetdI {a : Addr} {m : List (Int × V)} {k : Int} {z : V} (h : H a = some (DI m)) (l : m.length < 100000) (h1 : ∀ v, lk m k = some v → Q v H) (h2 : lk m k = none → Q z (upd H a (DI (pt m k z)))) : StG a (.int k) z Q H :=
  ⟨_, Sum.inl k, h, rfl, by rw [List.length_map]; exact szl l, fun v e => h1 v (by rw [← valV_di]; exact e), fun e => by rw [putK_di]; exact h2 (by rw [← valV_di]; exact e)⟩
def DlG (D : Ends) (σ : L2.St) (x y : V) (H2 : Hp) : Prop := ∃ a kvs k, x = .ref a ∧ H2 a = some (.dK kvs) ∧ y = kV k ∧ (valV kvs k).isSome = true ∧ D.nx σ (upd H2 a (.dK (dropK kvs k)))
theorem ddel (h : td σ H fun x H1 => ty σ H1 fun y H2 => DlG D σ x y H2) : sDDel td ty D σ H := h
def dr (m : List (Int × V)) (k : Int) : List (Int × V) := m.filter fun p => !decide (p.1 = k)
theorem dropK_di (m : List (Int × V)) (k : Int) : dropK (m.map fun p => ((Sum.inl p.1 : Key), p.2)) (Sum.inl k) = (dr m k).map fun p => ((Sum.inl p.1 : Key), p.2) := by
  unfold dropK dr
  induction m with
  | nil => rfl
  | cons a r ih =>
    rw [List.map_cons, List.filter_cons, List.filter_cons, ih]
    by_cases h : a.1 = k <;> simp [h]
theorem lk_dr (m : List (Int × V)) (k k' : Int) : lk (dr m k) k' = if k' = k then none else lk m k' := by
  unfold lk dr
  induction m with
  | nil => simp
  | cons a r ih =>
    rw [List.filter_cons]
    by_cases h : a.1 = k
    · rw [if_neg (by simp [h]), ih]
      by_cases h2 : k' = k
      · rw [if_pos h2, if_pos h2]
      · rw [if_neg h2, if_neg h2, List.find?_cons, decide_eq_false (by rw [h]; exact fun z => h2 z.symm)]
    · rw [if_pos (by simp [h]), List.find?_cons]
      by_cases h3 : a.1 = k'
      · rw [decide_eq_true h3, if_neg (by rw [← h3]; exact h), List.find?_cons, decide_eq_true h3]
      · rw [decide_eq_false h3]
        rw [ih, List.find?_cons, decide_eq_false h3]
theorem ddelI {a : Addr} {m : List (Int × V)} {k : Int} (h : H a = some (DI m)) (e : (lk m k).isSome = true) (q : D.nx σ (upd H a (DI (dr m k)))) : DlG D σ (.ref a) (.int k) H :=
  ⟨a, _, Sum.inl k, rfl, h, rfl, by rw [valV_di]; exact e, by rw [dropK_di]; exact q⟩
end Rd

set_option Elab.async false
set_option linter.all false
set_option maxRecDepth 100000
set_option maxHeartbeats 1000000

namespace Mine
open PySem PySem.Spec PyProof.Rows L2
local macro_rules | `(tactic| walk_at "my rn") => `(tactic| (repeat (first | with_reducible refine Rd.fld ?_ | with_reducible refine Rd.sfld ?_ | with_reducible refine Rd.meth ?_ | with_reducible refine Rd.make ?_ | with_reducible refine Rd.izip ?_ | with_reducible refine Rd.ckw ?_ | with_reducible refine Rd.dsetd ?_ | with_reducible refine Rd.ddel ?_ | with_reducible refine Rd.dnew ?_ | with_reducible refine Rd.din ?_ | with_reducible refine Rd.dnot ?_ | with_reducible refine Rd.dget ?_ | with_reducible refine Rd.dget2 ?_ | with_reducible refine Rd.dput ?_ | with_reducible refine Rd.cbDictOf ?_ | with_reducible refine Rd.iitems ?_ | with_reducible refine Rd.ikeys ?_ | with_reducible refine Rd.dc ?_ | with_reducible refine Rd.nwD ?_ | with_reducible refine Rd.tupN ?_ | with_reducible refine Rd.lstN ?_ | with_reducible refine Rd.cbListOf ?_ | with_reducible refine Rd.cbListOfR ?_ | with_reducible refine Rd.catI ?_ | with_reducible refine Rd.slN ?_ | with_reducible refine Rd.cbSrtI ?_ | with_reducible refine Rd.seq ?_ | with_reducible refine Rd.next ?_ | with_reducible refine Rd.brk ?_ | with_reducible refine Rd.cont ?_ | with_reducible refine Rd.asg ?_ | with_reducible refine Rd.ret ?_ | with_reducible refine Rd.retN ?_ | with_reducible refine Rd.drop ?_ | with_reducible refine Rd.ifs ?_ | with_reducible refine Rd.ife ?_ | with_reducible refine Rd.test ?_ | with_reducible refine Rd.tb_ ?_ | with_reducible refine Rd.bl ?_ | with_reducible refine Rd.bl2 ?_ | with_reducible refine Rd.and_ ?_ | with_reducible refine Rd.or_ ?_ | with_reducible refine Rd.not_ ?_ | with_reducible refine Rd.andV ?_ | with_reducible refine Rd.orV ?_ | with_reducible refine Rd.notV ?_ | with_reducible refine Rd.op ?_ | with_reducible refine Rd.un ?_ | with_reducible refine Rd.I0 ?_ | with_reducible refine Rd.U ?_ | with_reducible refine Rd.ip ?_ | with_reducible refine Rd.c_ ?_ | with_reducible refine Rd.nil ?_ | with_reducible refine Rd.cons ?_ | with_reducible refine Rd.call ?_ | with_reducible refine Rd.cb ?_ | with_reducible refine Rd.bm ?_ | with_reducible refine Rd.bm0 ?_ | with_reducible refine Rd.nopart ?_ | with_reducible refine Rd.part ?_ | with_reducible refine Rd.int1 ?_ | with_reducible refine Rd.ints1 ?_ | with_reducible refine Rd.ints2 ?_ | with_reducible refine Rd.gcons ?_ | with_reducible refine Rd.gnil ?_ | with_reducible refine Rd.sub ?_ | with_reducible refine Rd.isN ?_ | with_reducible refine Rd.chain ?_ | with_reducible refine Rd.rf ?_ | with_reducible refine Rd.tyS ?_ | with_reducible refine Rd.intI ?_ | with_reducible refine Rd.lc ?_ | with_reducible refine Rd.for_ ?_ | with_reducible refine Rd.ilist ?_ | with_reducible refine Rd.itup ?_ | with_reducible refine Rd.irng1 ?_ | with_reducible refine Rd.irng2 ?_ | with_reducible refine Rd.ienum ?_ | with_reducible refine Rd.istr ?_ | with_reducible refine Rd.refA ?_ | with_reducible refine Rd.strA ?_ | with_reducible refine Rd.yes ?_ | with_reducible refine Rd.ifT ?_ | with_reducible refine Rd.ifF ?_ | with_reducible refine Rd.ifnT ?_ | with_reducible refine Rd.ifnF ?_ | with_reducible refine Rd.isi_ii ?_ | with_reducible refine Rd.isi_ib ?_ | with_reducible refine Rd.isi_is ?_ | with_reducible refine Rd.isi_il ?_ | with_reducible refine Rd.isi_it ?_ | with_reducible refine Rd.isi_id ?_ | with_reducible refine Rd.isi_bi ?_ | with_reducible refine Rd.isi_bb ?_ | with_reducible refine Rd.isi_bs ?_ | with_reducible refine Rd.isi_bl ?_ | with_reducible refine Rd.isi_bt ?_ | with_reducible refine Rd.isi_bd ?_ | with_reducible refine Rd.isi_si ?_ | with_reducible refine Rd.isi_sb ?_ | with_reducible refine Rd.isi_ss ?_ | with_reducible refine Rd.isi_sl ?_ | with_reducible refine Rd.isi_st ?_ | with_reducible refine Rd.isi_sd ?_ | with_reducible refine Rd.isi_ni ?_ | with_reducible refine Rd.isi_nb ?_ | with_reducible refine Rd.isi_ns ?_ | with_reducible refine Rd.isi_nl ?_ | with_reducible refine Rd.isi_nt ?_ | with_reducible refine Rd.isi_nd ?_ | with_reducible refine Rd.sl ?_ | with_reducible refine Rd.v0 ?_ | with_reducible refine Rd.v1 ?_ | with_reducible refine Rd.v2 ?_ | with_reducible refine Rd.v3 ?_ | with_reducible refine Rd.v4 ?_ | with_reducible refine Rd.v5 ?_ | with_reducible refine Rd.v6 ?_ | with_reducible refine Rd.v7 ?_ | with_reducible refine Rd.v8 ?_ | with_reducible refine Rd.v9 ?_ | with_reducible refine Rd.v10 ?_ | with_reducible refine Rd.v11 ?_ | with_reducible refine Rd.v12 ?_ | with_reducible refine Rd.v13 ?_ | with_reducible refine Rd.v14 ?_ | with_reducible refine Rd.v15 ?_ | with_reducible refine Rd.n0 ?_ | with_reducible refine Rd.n1 ?_ | with_reducible refine Rd.n2 ?_ | with_reducible refine Rd.n3 ?_ | with_reducible refine Rd.n4 ?_ | with_reducible refine Rd.n5 ?_ | with_reducible refine Rd.n6 ?_ | with_reducible refine Rd.n7 ?_ | with_reducible refine Rd.n8 ?_ | with_reducible refine Rd.n9 ?_ | with_reducible refine Rd.n10 ?_ | with_reducible refine Rd.n11 ?_ | with_reducible refine Rd.n12 ?_ | with_reducible refine Rd.n13 ?_ | with_reducible refine Rd.n14 ?_ | with_reducible refine Rd.n15 ?_ | with_reducible refine Rd.g0 ?_ | with_reducible refine Rd.g1 ?_ | with_reducible refine Rd.g2 ?_ | with_reducible refine Rd.g3 ?_ | with_reducible refine Rd.g4 ?_ | with_reducible refine Rd.g5 ?_ | with_reducible refine Rd.g6 ?_ | with_reducible refine Rd.g7 ?_ | with_reducible refine Rd.g8 ?_ | with_reducible refine Rd.g9 ?_ | with_reducible refine Rd.g10 ?_ | with_reducible refine Rd.g11 ?_ | with_reducible refine Rd.g12 ?_ | with_reducible refine Rd.g13 ?_ | with_reducible refine Rd.g14 ?_ | with_reducible refine Rd.g15 ?_ | ((with_reducible apply Rd.fldI); (first | assumption | exact upd_same); assumption; assumption; (first | assumption | with_unfolding_all rfl)) | ((with_reducible apply Rd.methI); (first | assumption | exact upd_same); (first | assumption | with_unfolding_all rfl)) | ((with_reducible apply Rd.sfldI); (first | assumption | exact upd_same); assumption; assumption; exact Nat.le_of_ble_eq_true rfl) | ((with_reducible apply Rd.maxL); assumption) | ((with_reducible apply Rd.anyL); assumption) | ((with_reducible apply Rd.sumL); assumption) | ((with_reducible refine Rd.izI (by assumption) (by assumption) ?_)) | ((with_reducible refine Rd.eq ?_ ?_); exact rfl) | ((with_reducible refine Rd.ne ?_ ?_); exact rfl) | ((with_reducible refine Rd.szA ?_ ?_); exact Nat.le_of_ble_eq_true rfl) | ((with_reducible refine Rd.I ?_ ?_); first | assumption | decide | exact Or.inr (by decide +kernel) | exact Or.inl (by decide +kernel) | exact ⟨by decide, by decide⟩ | exact ⟨by decide, by decide, by decide⟩ | omega) | ((with_reducible apply Rd.tyL); first | assumption | exact upd_same) | ((with_reducible apply Rd.tyLq); assumption) | ((with_reducible apply Rd.ixL); (first | assumption | exact upd_same); exact rfl) | ((with_reducible apply Rd.ixT); (first | assumption | exact upd_same); exact rfl) | ((with_reducible apply Rd.ixLq); assumption; exact rfl) | ((with_reducible apply Rd.ixTq); assumption; exact rfl) | ((with_reducible apply Rd.gtup); (first | assumption | exact upd_same); exact rfl) | ((with_reducible apply Rd.gtupq); assumption; exact rfl) | ((with_reducible apply Rd.sqAq); assumption) | ((with_reducible apply Rd.stAq); assumption) | ((with_reducible apply Rd.enAq); assumption) | ((with_reducible apply Rd.lenLq); assumption) | ((with_reducible apply Rd.lenTq); assumption) | ((with_reducible apply Rd.sqA); first | assumption | exact upd_same) | ((with_reducible apply Rd.stA); first | assumption | exact upd_same) | ((with_reducible apply Rd.enA); first | assumption | exact upd_same) | ((with_reducible apply Rd.lenL); first | assumption | exact upd_same) | ((with_reducible apply Rd.lenT); first | assumption | exact upd_same) | ((with_reducible refine Rd.nwT ?_ ?_); exact Nat.le_of_ble_eq_true rfl) | ((with_reducible refine Rd.nwL ?_ ?_); exact Nat.le_of_ble_eq_true rfl) | ((with_reducible apply Rd.isd); assumption) | ((with_reducible apply Rd.dictOf); assumption) | ((with_reducible refine Rd.isi_dd (by assumption) ?_)) | ((with_reducible apply Rd.itA); first | assumption | exact upd_same) | ((with_reducible apply Rd.ikA); first | assumption | exact upd_same) | ((with_reducible apply Rd.listOf); assumption) | ((with_reducible apply Rd.listOfq); assumption) | ((with_reducible apply Rd.slo); assumption) | ((with_reducible apply Rd.slq); assumption) | ((with_reducible apply Rd.srtI); assumption) | ((with_reducible apply Rd.srtIo); assumption) | ((with_reducible refine Rd.isi_li (by assumption) ?_)) | ((with_reducible refine Rd.isi_lb (by assumption) ?_)) | ((with_reducible refine Rd.isi_ls (by assumption) ?_)) | ((with_reducible refine Rd.isi_ll (by assumption) ?_)) | ((with_reducible refine Rd.isi_lt (by assumption) ?_)) | ((with_reducible refine Rd.isi_ld (by assumption) ?_)) | ((with_reducible refine Rd.isi_ti (by assumption) ?_)) | ((with_reducible refine Rd.isi_tb (by assumption) ?_)) | ((with_reducible refine Rd.isi_ts (by assumption) ?_)) | ((with_reducible refine Rd.isi_tl (by assumption) ?_)) | ((with_reducible refine Rd.isi_tt (by assumption) ?_)) | ((with_reducible refine Rd.isi_td (by assumption) ?_)))))
def topS (i : Nat) : Stmt := PySem.Challenge.pw_deadbeat_k51_waiting_jobs.main.body.getD i (.Pass ⟨0, 0, 0, 0⟩)
abbrev s__law_start : Stmt := topS 3
theorem sc__law_start : FnScope ["script", "seed", "cell"] ["script"] (defScope s__law_start) := ⟨rfl, rfl, rfl, by decide +kernel, rfl, by decide +kernel, by decide +kernel⟩
abbrev s__law_draw : Stmt := topS 4
theorem sc__law_draw : FnScope ["state", "many", "found"] ["state", "many"] (defScope s__law_draw) := ⟨rfl, rfl, rfl, by decide +kernel, rfl, by decide +kernel, by decide +kernel⟩
abbrev s_Waiting_init : Stmt := inClass (topS 1) 0
theorem sc_Waiting_init : FnScope ["self"] ["self"] (defScope s_Waiting_init) := ⟨rfl, rfl, rfl, by decide +kernel, rfl, by decide +kernel, by decide +kernel⟩
abbrev s_Waiting_arrive : Stmt := inClass (topS 1) 1
theorem sc_Waiting_arrive : FnScope ["self", "number", "time"] ["self", "number", "time"] (defScope s_Waiting_arrive) := ⟨rfl, rfl, rfl, by decide +kernel, rfl, by decide +kernel, by decide +kernel⟩
abbrev s_Waiting_highest : Stmt := inClass (topS 1) 2
theorem sc_Waiting_highest : FnScope ["self", "ready", "number", "times"] ["self"] (defScope s_Waiting_highest) := ⟨rfl, rfl, rfl, by decide +kernel, rfl, by decide +kernel, by decide +kernel⟩
abbrev s_Waiting_begin : Stmt := inClass (topS 1) 3
theorem sc_Waiting_begin : FnScope ["self", "number"] ["self", "number"] (defScope s_Waiting_begin) := ⟨rfl, rfl, rfl, by decide +kernel, rfl, by decide +kernel, by decide +kernel⟩
abbrev s_Waiting_end : Stmt := inClass (topS 1) 4
theorem sc_Waiting_end : FnScope ["self", "number"] ["self", "number"] (defScope s_Waiting_end) := ⟨rfl, rfl, rfl, by decide +kernel, rfl, by decide +kernel, by decide +kernel⟩
abbrev s_Waiting_times : Stmt := inClass (topS 1) 5
theorem sc_Waiting_times : FnScope ["self", "number"] ["self", "number"] (defScope s_Waiting_times) := ⟨rfl, rfl, rfl, by decide +kernel, rfl, by decide +kernel, by decide +kernel⟩
abbrev s__law_ready : Stmt := topS 5
theorem sc__law_ready : FnScope ["queues", "begun", "found", "number"] ["queues", "begun"] (defScope s__law_ready) := ⟨rfl, rfl, rfl, by decide +kernel, rfl, by decide +kernel, by decide +kernel⟩
abbrev s__law_same : Stmt := topS 6
theorem sc__law_same : FnScope ["waiting", "queues", "begun", "found", "told", "number", "times"] ["waiting", "queues", "begun"] (defScope s__law_same) := ⟨rfl, rfl, rfl, by decide +kernel, rfl, by decide +kernel, by decide +kernel⟩
abbrev s_law : Stmt := topS 7
theorem sc_law : FnScope ["script", "state", "waiting", "queues", "number", "begun", "k", "turn", "found", "running", "time"] ["script"] (defScope s_law) := ⟨rfl, rfl, rfl, by decide +kernel, rfl, by decide +kernel, by decide +kernel⟩
structure Top (K : PySem.W.Frag) (mg : Str → Option Value) where
  C_Waiting : Addr
  gc_Waiting : mg "Waiting" = some (.ref C_Waiting)
  cl_Waiting : Cls K C_Waiting
  n_Waiting_begun : NoAttr K C_Waiting "begun"
  n_Waiting_queues : NoAttr K C_Waiting "queues"
  a__law_start : Addr
  d__law_start : FuncData
  F__law_start : Fun K "_law_start" "_law_start" s__law_start a__law_start d__law_start
  g__law_start : mg "_law_start" = some (.ref a__law_start)
  b__law_start : Binds K d__law_start ["script"] []
  a__law_draw : Addr
  d__law_draw : FuncData
  F__law_draw : Fun K "_law_draw" "_law_draw" s__law_draw a__law_draw d__law_draw
  g__law_draw : mg "_law_draw" = some (.ref a__law_draw)
  b__law_draw : Binds K d__law_draw ["state", "many"] []
  a_Waiting_init : Addr
  d_Waiting_init : FuncData
  F_Waiting_init : Fun K "__init__" "Waiting.__init__" s_Waiting_init a_Waiting_init d_Waiting_init
  M_Waiting : Mk K C_Waiting a_Waiting_init
  b_Waiting_init : Binds K d_Waiting_init ["self"] []
  a_Waiting_arrive : Addr
  d_Waiting_arrive : FuncData
  F_Waiting_arrive : Fun K "arrive" "Waiting.arrive" s_Waiting_arrive a_Waiting_arrive d_Waiting_arrive
  m_Waiting_arrive : Meth K C_Waiting "arrive" a_Waiting_arrive
  b_Waiting_arrive : Binds K d_Waiting_arrive ["self", "number", "time"] []
  a_Waiting_highest : Addr
  d_Waiting_highest : FuncData
  F_Waiting_highest : Fun K "highest" "Waiting.highest" s_Waiting_highest a_Waiting_highest d_Waiting_highest
  m_Waiting_highest : Meth K C_Waiting "highest" a_Waiting_highest
  b_Waiting_highest : Binds K d_Waiting_highest ["self"] []
  a_Waiting_begin : Addr
  d_Waiting_begin : FuncData
  F_Waiting_begin : Fun K "begin" "Waiting.begin" s_Waiting_begin a_Waiting_begin d_Waiting_begin
  m_Waiting_begin : Meth K C_Waiting "begin" a_Waiting_begin
  b_Waiting_begin : Binds K d_Waiting_begin ["self", "number"] []
  a_Waiting_end : Addr
  d_Waiting_end : FuncData
  F_Waiting_end : Fun K "end" "Waiting.end" s_Waiting_end a_Waiting_end d_Waiting_end
  m_Waiting_end : Meth K C_Waiting "end" a_Waiting_end
  b_Waiting_end : Binds K d_Waiting_end ["self", "number"] []
  a_Waiting_times : Addr
  d_Waiting_times : FuncData
  F_Waiting_times : Fun K "times" "Waiting.times" s_Waiting_times a_Waiting_times d_Waiting_times
  m_Waiting_times : Meth K C_Waiting "times" a_Waiting_times
  b_Waiting_times : Binds K d_Waiting_times ["self", "number"] []
  a__law_ready : Addr
  d__law_ready : FuncData
  F__law_ready : Fun K "_law_ready" "_law_ready" s__law_ready a__law_ready d__law_ready
  g__law_ready : mg "_law_ready" = some (.ref a__law_ready)
  b__law_ready : Binds K d__law_ready ["queues", "begun"] []
  a__law_same : Addr
  d__law_same : FuncData
  F__law_same : Fun K "_law_same" "_law_same" s__law_same a__law_same d__law_same
  g__law_same : mg "_law_same" = some (.ref a__law_same)
  b__law_same : Binds K d__law_same ["waiting", "queues", "begun"] []
  a_law : Addr
  d_law : FuncData
  F_law : Fun K "law" "law" s_law a_law d_law
  g_law : mg "law" = some (.ref a_law)
  b_law : Binds K d_law ["script"] []
  m_list : mg "list" = none
  m_int : mg "int" = none
  m_len : mg "len" = none
  m_abs : mg "abs" = none
  m_max : mg "max" = none
  m_range : mg "range" = none
  m_isinstance : mg "isinstance" = none
  m_bool : mg "bool" = none
/-- the state of the law's draws: the list at p, the cells' copy at c -/
def StOk (H : Hp) (p c : Addr) : Prop := ∃ (ms : List Int) (k : Nat) (v sd : Int), p ≠ c ∧ H p = some (.lst [.ref c, .int k, .int v, .int sd]) ∧ H c = some (.lst (ms.map V.int)) ∧ ms.length ≤ 63 ∧ 0 ≤ v ∧ 0 ≤ sd ∧ sd ≤ 2147483647
/-- all but the object at p is as it was -/
def Keep (p : Addr) (H H' : Hp) : Prop := ∀ b o, b ≠ p → H b = some o → H' b = some o
theorem Keep.refl (p : Addr) (H : Hp) : Keep p H H := fun _ _ _ h => h
theorem Keep.trans {p : Addr} {H H1 H2 : Hp} (a : Keep p H H1) (b : Keep p H1 H2) : Keep p H H2 := fun x o h1 h => b x o h1 (a x o h1 h)
theorem Keep.same {p : Addr} {H H1 : Hp} (a : Same H H1) : Keep p H H1 := fun x o _ h => a x o h
theorem Keep.at {p : Addr} {H : Hp} {o : HO} : Keep p H (upd H p o) := fun x u h1 h => by
  rw [upd_ne h1]
  exact h
theorem StOk.same {H H' : Hp} {p c : Addr} (s : StOk H p c) (e : Same H H') : StOk H' p c := by
  obtain ⟨ms, k, v, sd, h1, h2, h3, h⟩ := s
  exact ⟨ms, k, v, sd, h1, e _ _ h2, e _ _ h3, h⟩
theorem StOk.ne {H : Hp} {p c l : Addr} (s : StOk H p c) (h : H l = Option.none) : l ≠ p ∧ l ≠ c := by
  obtain ⟨ms, k, v, sd, h1, h2, h3, _⟩ := s
  exact ⟨fun z => (by rw [z, h2] at h; cases h), fun z => (by rw [z, h3] at h; cases h)⟩
/-- an address that is free behind was free before -/
theorem Keep.free {p c : Addr} {H H' : Hp} (k : Keep p H H') (s : StOk H' p c) {l : Addr} (h : H' l = Option.none) : H l = Option.none := by
  cases e : H l with
  | none => rfl
  | some o =>
    rw [k l o (s.ne h).1 e] at h
    cases h
def absI (n : Int) : Int := if n < 0 then -n else n
theorem abs_nn (n : Int) : 0 ≤ absI n := by
  unfold absI
  split <;> omega
section
variable {P : Program} {w : World} {K : PySem.W.Frag} {mg : Str → Option Value} {base : Heap}
def sp__law_start (K : PySem.W.Frag) : Sp := fun vs H Q _ => ∃ (a : Addr) (ns : List Int), vs = [.ref a] ∧ SqL K H a (ns.map V.int) ∧ ns.length ≤ 63 ∧ ∀ (H' : Hp) (p c : Addr), Same H H' → H p = none → H c = none → StOk H' p c → Q (.ref p) H'
theorem ok__law_start (T : Top K mg) : FnOk P w K mg base CX0 1 T.a__law_start T.d__law_start ["script"]  (sp__law_start K) := by
  refine T.F__law_start.ok sc__law_start (fun vs H Q E h => ?_) (fun cdv A outer s H vs Q E hr h => ?_)
  · obtain ⟨_, _, rfl, _⟩ := h
    rfl
  · obtain ⟨a, ns, rfl, hS, hlen, q⟩ := h
    refine ⟨_, (pss_cons (ps_set (i := 1) sc__law_start.nd rfl (by first | exact Or.inl rfl | exact Or.inr rfl) pe_int)
  (pss_cons (ps_for PassesOwn.never rfl (pi_list (pv 0)) (pg_name (i := 2) sc__law_start.nd rfl (by first | exact Or.inl rfl | exact Or.inr rfl))
  (pss_one (ps_set (i := 1) sc__law_start.nd rfl (by first | exact Or.inl rfl | exact Or.inr rfl) (pe_op op_mod (pe_callTy call_int1 (by rfl) T.m_int (by decide +kernel) (pa_cons (pe_op op_add (pe_op op_mul (pv 1) pe_int) (pv 2)) pa_nil)) pe_int))))
  (pss_one (ps_ret (pe_lst (pa_cons (pe_callTy call_list_of (by rfl) T.m_list (by decide +kernel) (pa_cons (pv 0) pa_nil)) (pa_cons pe_int (pa_cons pe_int (pa_cons (pe_op op_add (pv 1) pe_int) pa_nil))))))))), ?_⟩
    refine ⟨_, rfl, a, rfl, ⟨_, hS⟩, for_list (xs := ns.map V.int) (fun i σ H' => ∃ sd y2, σ = [some (.ref a), some (.int sd), y2] ∧ H' = H ∧ 0 ≤ sd ∧ sd < 1000003) ⟨7, none, rfl, rfl, by decide, by decide⟩ (fun i σ H' _ ⟨_, _, _, e, _⟩ => by rw [e]; exact hS) ?_ ?_⟩
    · rintro i x σ H' hi ⟨sd, y2, rfl, rfl, h0, h1⟩
      obtain ⟨n, _, rfl⟩ := List.mem_map.mp (List.mem_of_getElem? hi)
      refine ⟨_, rfl, _, _, rfl, rfl, .inl ⟨by omega, by omega⟩, _, rfl, _, _, rfl, rfl, .inl ⟨_, rfl, _, _, rfl, rfl, (by show (0 : Int) < 1000003; decide), ?_⟩⟩
      exact ⟨_, _, rfl, rfl, Int.emod_nonneg _ (by decide), Int.emod_lt_of_pos _ (by decide)⟩
    · rintro σ H' ⟨sd, y2, rfl, rfl, h0, h1⟩
      refine ⟨_, rfl, a, _, rfl, .inl hS, fun c hc => ?_⟩
      refine ⟨_, rfl, _, _, rfl, rfl, (by show 4 ≤ sizeLine; decide), fun p hp => ?_⟩
      have npc : p ≠ c := fun z => by rw [z, upd_same] at hp; cases hp
      refine q _ p c ((same_new hc).trans (same_new hp)) ((same_new hc).free hp) hc ⟨ns, 0, 0, sd + 1, npc, upd_same, ?_, hlen, by decide, by omega, by omega⟩
      rw [upd_ne npc.symm, upd_same]
      all_goals rfl
theorem ix4 {n : Nat} {i : Int} {j : Nat} (e : i = (j : Int)) (h : j < n) : ixN n i = some j := by
  subst e
  unfold ixN
  rw [if_pos (by omega), if_pos (by omega)]
  rfl
def sp__law_draw : Sp := fun vs H Q _ => ∃ (p c : Addr) (many : Int), vs = [.ref p, .int many] ∧ StOk H p c ∧ 0 < many ∧ many ≤ 1099511627775 ∧ ∀ (v : Int) (H' : Hp), 0 ≤ v → v < many → StOk H' p c → Keep p H H' → Q (.int v) H'
theorem ok__law_draw (T : Top K mg) : FnOk P w K mg base CX0 1 T.a__law_draw T.d__law_draw ["state", "many"]  sp__law_draw := by
  refine T.F__law_draw.ok sc__law_draw (fun vs H Q E h => ?_) (fun cdv A outer s H vs Q E hr h => ?_)
  · obtain ⟨_, _, _, rfl, _⟩ := h
    rfl
  · obtain ⟨p, c, many, rfl, hst, hm0, hm1, q⟩ := h
    obtain ⟨ms, k, v, sd, npc, hp, hc, hl, v0, s0, s1⟩ := hst
    refine ⟨_, (pss_cons (ps_if (pt_cmpR op_eq (pe_ix ix_list (pv 0) pe_int (fun _ _ => rfl)) pe_int (nomark _))
  (pss_cons (ps_if (pt_cmpR op_lt (pe_ix ix_list (pv 0) pe_int (fun _ _ => rfl)) (pe_callB call_len_seq (by rfl) T.m_len PySem.boot_len (pa_cons (pe_ix ix_list (pv 0) pe_int (fun _ _ => rfl)) pa_nil)) (nomark _))
  (pss_one (ps_asg (pe_callB call_abs (by rfl) T.m_abs (by decide +kernel) (pa_cons (pe_ix ix_list (pe_ix ix_list (pv 0) pe_int (fun _ _ => rfl)) (pe_ix ix_list (pv 0) pe_int (fun _ _ => rfl)) (fun _ _ => rfl)) pa_nil)) (pg_sub (pv 0) pe_int set_list)))
  (pss_cons (ps_asg (pe_op op_mod (pe_callTy call_int1 (by rfl) T.m_int (by decide +kernel) (pa_cons (pe_op op_add (pe_op op_mul (pe_ix ix_list (pv 0) pe_int (fun _ _ => rfl)) pe_int) pe_int) pa_nil)) pe_int) (pg_sub (pv 0) pe_int set_list))
  (pss_one (ps_asg (pe_op op_fdivW (pe_callTy call_int1 (by rfl) T.m_int (by decide +kernel) (pa_cons (pe_ix ix_list (pv 0) pe_int (fun _ _ => rfl)) pa_nil)) pe_int) (pg_sub (pv 0) pe_int set_list)))))
  (pss_one (ps_asg (pe_op op_add (pe_ix ix_list (pv 0) pe_int (fun _ _ => rfl)) pe_int) (pg_sub (pv 0) pe_int set_list))))
  pss_nil)
  (pss_cons (ps_set (i := 2) sc__law_draw.nd rfl (by first | exact Or.inl rfl | exact Or.inr rfl) (pe_op op_mod (pe_callTy call_int1 (by rfl) T.m_int (by decide +kernel) (pa_cons (pe_ix ix_list (pv 0) pe_int (fun _ _ => rfl)) pa_nil)) (pv 1)))
  (pss_cons (ps_asg (pe_op op_fdivW (pe_callTy call_int1 (by rfl) T.m_int (by decide +kernel) (pa_cons (pe_ix ix_list (pv 0) pe_int (fun _ _ => rfl)) pa_nil)) (pv 1)) (pg_sub (pv 0) pe_int set_list))
  (pss_one (ps_ret (pv 2)))))), ?_⟩
    have fin : ∀ (k' : Nat) (v' sd' : Int) (H' : Hp), H' = upd H p (.lst [.ref c, .int k', .int v', .int sd']) → 0 ≤ v' → 0 ≤ sd' → sd' ≤ 2147483647 → Q (.int (v' % many)) (upd H' p (.lst [.ref c, .int k', .int (v' / many), .int sd'])) := fun k' v' sd' H' e hv h0 h1 => by
      subst e
      refine q _ _ (Int.emod_nonneg _ (by omega)) (Int.emod_lt_of_pos _ hm0) ⟨ms, k', v' / many, sd', npc, upd_same, ?_, hl, Int.ediv_nonneg hv (by omega), h0, h1⟩ ?_
      · rw [upd_ne npc.symm, upd_ne npc.symm]
        exact hc
      · exact Keep.at.trans Keep.at
    have hw : many.natAbs < 2 ^ 40 := by omega
    refine ⟨_, rfl, p, _, 2, .int v, rfl, rfl, SqL.of hp, atI_nat (j := 2) rfl, rfl, _, rfl, ite2 (fun cc => ?_) (fun cc => ?_)⟩
    · -- the next cell, or a mixed one
      have key : ∀ (v2 sd2 : Int) (H2 : Hp), H2 = upd H p (.lst [.ref c, .int k, .int v2, .int sd2]) → 0 ≤ v2 → 0 ≤ sd2 → sd2 ≤ 2147483647 → _ := fun v2 sd2 H2 e hv h0 h1 => fin (k + 1) v2 sd2 (upd H2 p (.lst [.ref c, .int ((k + 1 : Nat) : Int), .int v2, .int sd2])) (by rw [e, upd_upd]) hv h0 h1
      refine ⟨_, rfl, p, _, 1, .int k, rfl, rfl, SqL.of hp, atI_nat (j := 1) rfl, _, rfl, p, _, 0, .ref c, rfl, rfl, SqL.of hp, atI_nat (j := 0) rfl, c, _, rfl, .inl (SqL.of hc), _, _, rfl, rfl, _, rfl, ite2 (fun c2 => ?_) (fun c2 => ?_)⟩
      · have hk : k < ms.length := by
          have := of_decide_eq_true c2
          rw [List.length_map] at this
          omega
        obtain ⟨m, hm⟩ : ∃ m, ms[k]? = some m := ⟨_, List.getElem?_eq_getElem hk⟩
        refine ⟨_, rfl, p, _, 0, .ref c, rfl, rfl, SqL.of hp, atI_nat (j := 0) rfl, _, rfl, p, _, 1, .int k, rfl, rfl, SqL.of hp, atI_nat (j := 1) rfl, c, _, k, .int m, rfl, rfl, SqL.of hc, atI_nat (j := k) (by rw [List.getElem?_map, hm]; rfl), _, rfl, ?_⟩
        refine ⟨_, rfl, p, _, 2, 2, rfl, rfl, hp, rfl, ?_⟩
        refine ⟨_, rfl, p, _, 1, .int k, rfl, rfl, SqL.of upd_same, atI_nat (j := 1) rfl, _, _, rfl, rfl, _, rfl, p, _, 1, 1, rfl, rfl, upd_same, rfl, ?_⟩
        refine ⟨_, rfl, p, _, 2, .int (absI m), rfl, rfl, SqL.of upd_same, atI_nat (j := 2) rfl, .inl ⟨_, rfl, _, rfl, _, _, rfl, rfl, hm0, ?_⟩⟩
        refine ⟨_, rfl, p, _, 2, .int (absI m), rfl, rfl, SqL.of upd_same, atI_nat (j := 2) rfl, .inl ⟨_, rfl, _, rfl, _, _, rfl, rfl, wide_div hm0 hw (by decide) (by decide), _, rfl, p, _, 2, 2, rfl, rfl, upd_same, rfl, ?_⟩⟩
        exact ⟨_, rfl, key (absI m) sd _ rfl (abs_nn m) s0 s1⟩
      · have m0 := Int.emod_nonneg (sd * 48271 + 12345) (show (2147483647 : Int) ≠ 0 by decide)
        have m1 := Int.emod_lt_of_pos (sd * 48271 + 12345) (show (0 : Int) < 2147483647 by decide)
        refine ⟨_, rfl, p, _, 3, .int sd, rfl, rfl, SqL.of hp, atI_nat (j := 3) rfl, _, _, rfl, rfl, .inl ⟨by omega, by omega⟩, _, _, rfl, rfl, .inl ⟨_, rfl, _, _, rfl, rfl, (by show (0 : Int) < 2147483647; decide), ?_⟩⟩
        refine ⟨_, rfl, p, _, 3, 3, rfl, rfl, hp, rfl, ?_⟩
        refine ⟨_, rfl, p, _, 3, .int ((sd * 48271 + 12345) % 2147483647), rfl, rfl, SqL.of upd_same, atI_nat (j := 3) rfl, .inl ⟨_, rfl, _, _, rfl, rfl, wide_div (b := 10) (by decide) (by decide) (by decide) (by decide), _, rfl, p, _, 2, 2, rfl, rfl, upd_same, rfl, ?_⟩⟩
        refine ⟨_, rfl, p, _, 1, .int k, rfl, rfl, SqL.of upd_same, atI_nat (j := 1) rfl, _, _, rfl, rfl, _, rfl, p, _, 1, 1, rfl, rfl, upd_same, rfl, ?_⟩
        refine ⟨_, rfl, p, _, 2, .int ((sd * 48271 + 12345) % 2147483647 / 64), rfl, rfl, SqL.of upd_same, atI_nat (j := 2) rfl, .inl ⟨_, rfl, _, rfl, _, _, rfl, rfl, hm0, ?_⟩⟩
        refine ⟨_, rfl, p, _, 2, .int ((sd * 48271 + 12345) % 2147483647 / 64), rfl, rfl, SqL.of upd_same, atI_nat (j := 2) rfl, .inl ⟨_, rfl, _, rfl, _, _, rfl, rfl, wide_div hm0 hw (by decide) (by decide), _, rfl, p, _, 2, 2, rfl, rfl, upd_same, rfl, ?_⟩⟩
        exact ⟨_, rfl, key ((sd * 48271 + 12345) % 2147483647 / 64) ((sd * 48271 + 12345) % 2147483647) _ (by rw [upd_upd]; rfl) (Int.ediv_nonneg m0 (by decide)) m0 (by omega)⟩
    · refine ⟨_, rfl, p, _, 2, .int v, rfl, rfl, SqL.of hp, atI_nat (j := 2) rfl, .inl ⟨_, rfl, _, rfl, _, _, rfl, rfl, hm0, ?_⟩⟩
      refine ⟨_, rfl, p, _, 2, .int v, rfl, rfl, SqL.of hp, atI_nat (j := 2) rfl, .inl ⟨_, rfl, _, rfl, _, _, rfl, rfl, wide_div hm0 hw (by decide) (by decide), _, rfl, p, _, 2, 2, rfl, rfl, hp, rfl, ?_⟩⟩
      have := fin k v sd H (upd_self hp).symm v0 s0 s1
      exact ⟨_, rfl, this⟩
end

/-! ### what == and index compare: data under an object -/
def DOk (n : Nat) (d : PyData) : Prop := d.canLay0 = true ∧ d.depth ≤ n
theorem DOk.shaped {n : Nat} {d : PyData} (h : DOk n d) (hn : n ≤ 64) : SeqAt.shaped d = true := by
  unfold SeqAt.shaped
  rw [h.1, decide_eq_true (Nat.le_trans h.2 hn)]
  rfl
theorem DOk.mono {n m : Nat} {d : PyData} (h : DOk n d) (hn : n ≤ m) : DOk m d := ⟨h.1, Nat.le_trans h.2 hn⟩
theorem dok_int {n : Nat} {i : Int} : DOk n (.int i) := ⟨by simp only [PyData.canLay0], by simp only [PyData.depth]; exact Nat.zero_le _⟩
theorem dok_non {n : Nat} : DOk n .none := ⟨by simp only [PyData.canLay0], by simp only [PyData.depth]; exact Nat.zero_le _⟩
theorem dok_bl {n : Nat} {b : Bool} : DOk n (.bool b) := ⟨by simp only [PyData.canLay0], by simp only [PyData.depth]; exact Nat.zero_le _⟩
theorem dok_str {n : Nat} {x : Str} (h : PyData.strOk x = true) : DOk n (.str x) := ⟨by simp only [PyData.canLay0]; exact h, by simp only [PyData.depth]; exact Nat.zero_le _⟩
theorem dok_all {n : Nat} : ∀ {ds : List PyData}, (∀ d ∈ ds, DOk n d) → PyData.canLayAll0 ds = true ∧ PyData.depthAll ds ≤ n
  | [], _ => ⟨by simp only [PyData.canLayAll0], by simp only [PyData.depthAll]; exact Nat.zero_le _⟩
  | d :: r, h => by
    obtain ⟨a, b⟩ := dok_all (ds := r) fun x m => h x (List.mem_cons_of_mem _ m)
    obtain ⟨c, e⟩ := h d List.mem_cons_self
    exact ⟨by simp only [PyData.canLayAll0, c, a] <;> rfl, by simp only [PyData.depthAll]; omega⟩
theorem dok_list {n : Nat} {ds : List PyData} (h : ∀ d ∈ ds, DOk n d) : DOk (n + 1) (.list ds) := by
  obtain ⟨a, b⟩ := dok_all h
  exact ⟨by simp only [PyData.canLay0]; exact a, by simp only [PyData.depth]; omega⟩
theorem dok_tup {n : Nat} {ds : List PyData} (h : ∀ d ∈ ds, DOk n d) : DOk (n + 1) (.tuple ds) := by
  obtain ⟨a, b⟩ := dok_all h
  exact ⟨by simp only [PyData.canLay0]; exact a, by simp only [PyData.depth]; omega⟩
theorem dpAll_map {K : PySem.W.Frag} {H : Hp} (f : V → PyData) : ∀ {zs : List V}, (∀ v ∈ zs, Dp K H v (f v)) → DpAll K H zs (zs.map f)
  | [], _ => .nil
  | z :: r, h => .cons (h z List.mem_cons_self) (dpAll_map f fun v m => h v (List.mem_cons_of_mem _ m))
theorem dpAll_ints {K : PySem.W.Frag} {H : Hp} : ∀ {ns : List Int}, DpAll K H (ns.map V.int) (ns.map PyData.int)
  | [] => .nil
  | n :: r => .cons (.int n) dpAll_ints
theorem dp_ints {K : PySem.W.Frag} {H : Hp} {a : Addr} {ns : List Int} (h : SqL K H a (ns.map V.int)) : Dp K H (.ref a) (.list (ns.map PyData.int)) := .lst h dpAll_ints
theorem dp_intsT {K : PySem.W.Frag} {H : Hp} {a : Addr} {ns : List Int} (h : SqT K H a (ns.map V.int)) : Dp K H (.ref a) (.tuple (ns.map PyData.int)) := .tup h dpAll_ints
theorem ints_dok (n : Nat) (ns : List Int) : DOk (n + 1) (.list (ns.map PyData.int)) := dok_list fun d m => by
  obtain ⟨i, _, rfl⟩ := List.mem_map.mp m
  exact dok_int
theorem ints_shaped (ns : List Int) : SeqAt.shaped (.list (ns.map PyData.int)) = true := (ints_dok 0 ns).shaped (by decide)
theorem eqvAll_ints : ∀ ns ms : List Int, PyData.eqvAll (ns.map PyData.int) (ms.map PyData.int) = decide (ns = ms)
  | [], [] => by simp [PyData.eqvAll]
  | [], b :: s => by simp [PyData.eqvAll]
  | a :: r, [] => by simp [PyData.eqvAll]
  | a :: r, b :: s => by
    rw [List.map_cons, List.map_cons, PyData.eqvAll, eqvAll_ints r s, PyData.eqv]
    by_cases h : a = b <;> by_cases h2 : r = s <;> simp [h, h2]
theorem eqv_ints (ns ms : List Int) : PyData.eqv (.list (ns.map PyData.int)) (.list (ms.map PyData.int)) = decide (ns = ms) := by
  rw [PyData.eqv, eqvAll_ints]
theorem eqv_intsT (ns ms : List Int) : PyData.eqv (.tuple (ns.map PyData.int)) (.tuple (ms.map PyData.int)) = decide (ns = ms) := by
  rw [PyData.eqv, eqvAll_ints]

/-! ### comprehensions that keep some -/
theorem lc_some {J : It} {n : Nat} {G : Hp → Prop} {Y : Nat → Hp → V → Hp → Prop} (w : Walk J n G Y) {g : TG} {tt : TT} {te : TE} {vs : List Nat} {σ : L2.St} {H1 : Hp} {D : Addr} {Qd : Hp → Prop} (P : Int → Prop) (Cm : Nat → Int → Prop) (nD : H1 D = none) (hn : n ≤ 90000) (hG : ∀ H, Rd.But D H1 H → G H)
    (hs : ∀ (i : Nat) x H H' (Kt : VK) (Kn : Hp → Prop), i < n → Rd.But D H1 H → Y i H x H' → (∀ v H4, P v → (∀ u, Cm i u → u = v) → Same H H4 → Kt (.int v) H4) → (∀ H4, (∀ u, ¬ Cm i u) → Same H H4 → Kn H4) →
      g x (wipe σ vs) H' fun σ2 H2 => wipe σ2 vs = wipe σ vs ∧ tt σ2 H2 fun b H3 => if b = true then te σ2 H3 Kt else Kn H3)
    (hd : ∀ H (ys : List Int), (∀ v ∈ ys, P v) → (∀ i u, i < n → Cm i u → u ∈ ys) → ys.length ≤ n → Same H1 H → H D = some (.lst (ys.map V.int)) → Qd H) :
    ∃ W : Nat → Nat → Hp → Prop, (∃ m, W 0 m (upd H1 D (.lst []))) ∧ ∀ i m H, W i m H →
      (J.stop i H ∧ Qd H) ∨ (J.go i H ∧ ∃ Nx : Hp → Prop, (∀ H', Nx H' → ∃ m', m' < m ∧ W (i + 1) m' H') ∧ ∀ x H', J.yld i H x H' → g x (wipe σ vs) H' fun σ2 H2 => wipe σ2 vs = wipe σ vs ∧ tt σ2 H2 fun b H3 =>
        if b = true then te σ2 H3 fun y H4 => ∃ acc, H4 D = some (.lst acc) ∧ acc.length < sizeLine ∧ Nx (upd H4 D (.lst (acc ++ [y]))) else Nx H3) := by
  refine lc_it w (fun i H => ∃ ys : List Int, (∀ v ∈ ys, P v) ∧ (∀ j u, j < i → Cm j u → u ∈ ys) ∧ ys.length ≤ i ∧ Rd.But D H1 H ∧ H D = some (.lst (ys.map V.int))) ⟨[], by simp, fun j u h => absurd h (Nat.not_lt_zero _), Nat.le_refl _, Rd.But.at_, upd_same⟩ (fun i H _ ⟨_, _, _, _, b, _⟩ => hG H b) (fun i x H H' hi ⟨ys, h1, h2, h3, b, hD⟩ y => ?_) (fun H ⟨ys, h1, h2, h3, b, hD⟩ => hd H ys h1 h2 h3 (b.to nD) hD)
  refine hs i x H H' _ _ hi b y (fun v H4 pv cm sm => ?_) (fun H4 cm sm => ?_)
  · refine ⟨_, sm _ _ hD, Rd.szl (by rw [List.length_map]; omega), ys ++ [v], fun u m => ?_, fun j u hj c => ?_, by simp; omega, (b.trans (Rd.But.same sm)).trans Rd.But.at_, by rw [upd_same, List.map_append]; rfl⟩
    · rcases List.mem_append.mp m with m | m
      · exact h1 u m
      · rw [List.mem_singleton.mp m]; exact pv
    · by_cases e : j = i
      · subst e
        rw [cm u c]
        exact List.mem_append_right _ (List.mem_singleton.mpr rfl)
      · exact List.mem_append_left _ (h2 j u (by omega) c)
  · refine ⟨ys, h1, fun j u hj c => ?_, by omega, b.trans (Rd.But.same sm), sm _ _ hD⟩
    by_cases e : j = i
    · subst e
      exact absurd c (cm u)
    · exact h2 j u (by omega) c

/-! ### deadbeat.waiting -/
def wf (Qa Ba : Addr) : List (Str × V) := [("queues", .ref Qa), ("begun", .ref Ba)]
theorem wf_q {Qa Ba : Addr} : (wf Qa Ba).lookup ("queues" : Str) = some (.ref Qa) := by with_unfolding_all rfl
theorem wf_b {Qa Ba : Addr} : (wf Qa Ba).lookup ("begun" : Str) = some (.ref Ba) := by with_unfolding_all rfl
theorem wf_put {Qa Ba : Addr} : putF "begun" (.ref Ba) (putF "queues" (.ref Qa) []) = wf Qa Ba := by with_unfolding_all rfl
/-- the queues as a dict of lists, the begun numbers as a dict -/
structure WtAt (C : Addr) (H : Hp) (S : Addr → Prop) (o dx Qa Ba : Addr) (q : List (Int × Addr)) (b : List (Int × V)) (qs : Int → List Int) (bg : Int → Bool) (n : Nat) : Prop where
  ob : H o = some (.ins C dx (wf Qa Ba))
  hQ : H Qa = some (Rd.DI (q.map fun p => (p.1, V.ref p.2)))
  hB : H Ba = some (Rd.DI b)
  row : ∀ p ∈ q, H p.2 = some (.lst ((qs p.1).map V.int))
  nk : (q.map (·.1)).Nodup
  na : (q.map (·.2)).Nodup
  rng : ∀ p ∈ q, 1 ≤ p.1 ∧ p.1 ≤ 10
  no : ∀ k, k ∉ q.map (·.1) → qs k = []
  bgd : ∀ k, bg k = (Rd.lk b k).isSome
  nQ : Qa ∉ q.map (·.2)
  nB : Ba ∉ q.map (·.2)
  QB : Qa ≠ Ba
  so : S o
  sQ : S Qa
  sB : S Ba
  sr : ∀ p ∈ q, S p.2
  bn : ∀ k, (qs k).length ≤ n
  bb : b.length ≤ n
  bq : q.length ≤ n
  live : ∀ x, S x → ∃ y, H x = some y
def Wt (C : Addr) (H : Hp) (S : Addr → Prop) (o : Addr) (qs : Int → List Int) (bg : Int → Bool) (n : Nat) : Prop := ∃ dx Qa Ba q b, WtAt C H S o dx Qa Ba q b qs bg n
def Kp (S : Addr → Prop) (H H' : Hp) : Prop := ∀ b x, ¬ S b → H b = some x → H' b = some x
def Gr (S S' : Addr → Prop) (H : Hp) : Prop := ∀ b, S' b → S b ∨ H b = none
theorem WtAt.keep {C o dx Qa Ba : Addr} {H H' : Hp} {S : Addr → Prop} {q : List (Int × Addr)} {b : List (Int × V)} {qs : Int → List Int} {bg : Int → Bool} {n m : Nat} (h : WtAt C H S o dx Qa Ba q b qs bg n) (k : ∀ b x, S b → H b = some x → H' b = some x) (le : n ≤ m) : WtAt C H' S o dx Qa Ba q b qs bg m :=
  { h with ob := k _ _ h.so h.ob, hQ := k _ _ h.sQ h.hQ, hB := k _ _ h.sB h.hB, row := fun p m => k _ _ (h.sr p m) (h.row p m), bn := fun k => Nat.le_trans (h.bn k) le, bb := Nat.le_trans h.bb le, bq := Nat.le_trans h.bq le, live := fun x m => let ⟨y, e⟩ := h.live x m; ⟨y, k x y m e⟩ }
theorem Wt.keep {C o : Addr} {H H' : Hp} {S : Addr → Prop} {qs : Int → List Int} {bg : Int → Bool} {n m : Nat} (h : Wt C H S o qs bg n) (k : ∀ b x, S b → H b = some x → H' b = some x) (le : n ≤ m) : Wt C H' S o qs bg m := by
  obtain ⟨dx, Qa, Ba, q, b, h⟩ := h
  exact ⟨dx, Qa, Ba, q, b, h.keep k le⟩
theorem q_lk {q : List (Int × Addr)} (nk : (q.map (·.1)).Nodup) {p : Int × Addr} (h : p ∈ q) : Rd.lk (q.map fun p => (p.1, V.ref p.2)) p.1 = some (.ref p.2) := by
  induction q with
  | nil => simp at h
  | cons a r ih =>
    unfold Rd.lk at ih ⊢
    rw [List.map_cons, List.find?_cons]
    rw [List.map_cons, List.nodup_cons] at nk
    rcases List.mem_cons.mp h with rfl | h
    · rw [decide_eq_true rfl]; rfl
    · have ne : a.1 ≠ p.1 := fun z => nk.1 (by rw [z]; exact List.mem_map_of_mem h)
      rw [decide_eq_false ne]
      exact ih nk.2 h
theorem q_none {q : List (Int × Addr)} {k : Int} (h : k ∉ q.map (·.1)) : Rd.lk (q.map fun p => (p.1, V.ref p.2)) k = none := by
  unfold Rd.lk
  rw [List.find?_eq_none.mpr]
  · rfl
  · intro x m
    obtain ⟨p, mp, rfl⟩ := List.mem_map.mp m
    simp
    exact fun z => h (by rw [← z]; exact List.mem_map_of_mem mp)
theorem q_some {q : List (Int × Addr)} {k : Int} {v : V} (h : Rd.lk (q.map fun p => (p.1, V.ref p.2)) k = some v) : ∃ p ∈ q, p.1 = k ∧ v = .ref p.2 := by
  unfold Rd.lk at h
  cases e : (q.map fun p => (p.1, V.ref p.2)).find? fun p => decide (p.1 = k) with
  | none => rw [e] at h; cases h
  | some x =>
    rw [e] at h
    cases h
    have m := List.mem_of_find?_eq_some e
    have d := List.find?_some e
    obtain ⟨p, mp, rfl⟩ := List.mem_map.mp m
    exact ⟨p, mp, by simpa using d, rfl⟩
section
variable {P : Program} {w : World} {K : PySem.W.Frag} {mg : Str → Option Value} {base : Heap}
def sp_Waiting_init (C : Addr) : Sp := fun vs H Q _ => ∃ (o dx : Addr), vs = [.ref o] ∧ H o = some (.ins C dx []) ∧
  ∀ H' S, Wt C H' S o (fun _ => []) (fun _ => false) 0 → (∀ b x, b ≠ o → H b = some x → H' b = some x) → (∀ b, S b → b = o ∨ H b = none) → Q .non H'
theorem ok_Waiting_init (T : Top K mg) : FnOk P w K mg base CX0 1 T.a_Waiting_init T.d_Waiting_init ["self"]  (sp_Waiting_init T.C_Waiting) := by
  refine T.F_Waiting_init.ok sc_Waiting_init (fun vs H Q E h => ?_) (fun cdv A outer s H vs Q E hr h => ?_)
  · obtain ⟨_, _, rfl, _⟩ := h
    rfl
  · obtain ⟨o, dx, rfl, ho, q⟩ := h
    have c1 := T.cl_Waiting
    have c2 := T.n_Waiting_queues
    have c3 := T.n_Waiting_begun
    refine ⟨_, (pss_cons (ps_fld (pv 0) pe_dnewK rfl)
  (pss_one (ps_fld (pv 0) pe_dnewK rfl))), ?_⟩
    rw [show ∀ a0 : V, L2.start ["self"] [a0] = [some a0] from fun _ => rfl]
    walk_at "my rn"
    intro Qa H1 nQ s1 hQ
    have o1 := s1 _ _ ho
    have oQ : o ≠ Qa := fun z => by rw [z, nQ] at ho; cases ho
    walk_at "my rn"
    obtain ⟨H2, e2⟩ : ∃ H2, H2 = upd H1 o (.ins T.C_Waiting dx (putF "queues" (.ref Qa) [])) := ⟨_, rfl⟩
    rw [← e2]
    have o2 : H2 o = some (.ins T.C_Waiting dx (putF "queues" (.ref Qa) [])) := by rw [e2]; exact upd_same
    have k12 : ∀ b x, b ≠ o → H1 b = some x → H2 b = some x := fun b x n e => by rw [e2, upd_ne n]; exact e
    walk_at "my rn"
    intro Ba H3 nB s3 hB
    have o3 := s3 _ _ o2
    have oB : o ≠ Ba := fun z => by rw [z, nB] at o2; cases o2
    walk_at "my rn"
    rw [wf_put]
    have hQ2 := k12 _ _ oQ.symm hQ
    have QB : Qa ≠ Ba := fun z => by rw [z, nB] at hQ2; cases hQ2
    have k04 : ∀ b x, b ≠ o → H b = some x → (upd H3 o (.ins T.C_Waiting dx (wf Qa Ba))) b = some x := fun b x n e => by
      rw [upd_ne n]
      exact s3 _ _ (k12 _ _ n (s1 _ _ e))
    have hQ4 : (upd H3 o (.ins T.C_Waiting dx (wf Qa Ba))) Qa = some (Rd.DI []) := by rw [upd_ne oQ.symm]; exact s3 _ _ hQ2
    have hB4 : (upd H3 o (.ins T.C_Waiting dx (wf Qa Ba))) Ba = some (Rd.DI []) := by rw [upd_ne oB.symm]; exact hB
    refine q _ (fun b => b = o ∨ b = Qa ∨ b = Ba) ⟨dx, Qa, Ba, [], [], ⟨upd_same, hQ4, hB4, by simp, by simp, by simp, by simp, fun _ _ => rfl, fun _ => rfl, by simp, by simp, QB, .inl rfl, .inr (.inl rfl), .inr (.inr rfl), by simp, by simp, by simp, by simp, fun b m => ?_⟩⟩ k04 (fun b m => ?_)
    · rcases m with rfl | rfl | rfl
      · exact ⟨_, upd_same⟩
      · exact ⟨_, hQ4⟩
      · exact ⟨_, hB4⟩
    · rcases m with m | rfl | rfl
      · exact .inl m
      · exact .inr nQ
      · refine .inr ?_
        cases z : H b with
        | none => rfl
        | some x => rw [k12 b x oB.symm (s1 _ _ z)] at nB; cases nB
def upF {α : Type} (f : Int → α) (k : Int) (v : α) : Int → α := fun j => if j = k then v else f j
theorem upF_at {α : Type} {f : Int → α} {k : Int} {v : α} : upF f k v k = v := by unfold upF; rw [if_pos rfl]
theorem upF_ne {α : Type} {f : Int → α} {k j : Int} {v : α} (h : j ≠ k) : upF f k v j = f j := by unfold upF; rw [if_neg h]
theorem WtAt.on {C o dx Qa Ba : Addr} {H : Hp} {S : Addr → Prop} {q : List (Int × Addr)} {b : List (Int × V)} {qs : Int → List Int} {bg : Int → Bool} {n : Nat} (h : WtAt C H S o dx Qa Ba q b qs bg n) : o ≠ Qa ∧ o ≠ Ba ∧ ∀ p ∈ q, o ≠ p.2 := by
  refine ⟨fun z => ?_, fun z => ?_, fun p m z => ?_⟩
  · have := h.ob; rw [z, h.hQ] at this; cases this
  · have := h.ob; rw [z, h.hB] at this; cases this
  · have := h.ob; rw [z, h.row p m] at this; cases this
theorem q_same {q : List (Int × Addr)} (na : (q.map (·.2)).Nodup) {p p' : Int × Addr} (h : p ∈ q) (h' : p' ∈ q) (e : p.2 = p'.2) : p = p' := by
  induction q with
  | nil => simp at h
  | cons a r ih =>
    rw [List.map_cons, List.nodup_cons] at na
    rcases List.mem_cons.mp h with rfl | hh
    · rcases List.mem_cons.mp h' with rfl | h'
      · rfl
      · exact absurd (show p.2 ∈ r.map (·.2) by rw [e]; exact List.mem_map_of_mem h') na.1
    · rcases List.mem_cons.mp h' with rfl | h'
      · exact absurd (show p'.2 ∈ r.map (·.2) by rw [← e]; exact List.mem_map_of_mem hh) na.1
      · exact ih na.2 hh h'
theorem k_same {q : List (Int × Addr)} (nk : (q.map (·.1)).Nodup) {p p' : Int × Addr} (h : p ∈ q) (h' : p' ∈ q) (e : p.1 = p'.1) : p = p' := by
  induction q with
  | nil => simp at h
  | cons a r ih =>
    rw [List.map_cons, List.nodup_cons] at nk
    rcases List.mem_cons.mp h with rfl | hh
    · rcases List.mem_cons.mp h' with rfl | h'
      · rfl
      · exact absurd (show p.1 ∈ r.map (·.1) by rw [e]; exact List.mem_map_of_mem h') nk.1
    · rcases List.mem_cons.mp h' with rfl | h'
      · exact absurd (show p'.1 ∈ r.map (·.1) by rw [← e]; exact List.mem_map_of_mem hh) nk.1
      · exact ih nk.2 hh h'
/-- one queue changes -/
theorem WtAt.put {C o dx Qa Ba : Addr} {H H3 : Hp} {S : Addr → Prop} {q : List (Int × Addr)} {b : List (Int × V)} {qs : Int → List Int} {bg : Int → Bool} {n : Nat} (h : WtAt C H S o dx Qa Ba q b qs bg n) {p : Int × Addr} (m : p ∈ q) {e' : List Int} (hl : H3 p.2 = some (.lst (e'.map V.int)))
    (kp : ∀ b x, b ≠ p.2 → H b = some x → H3 b = some x) (be : e'.length ≤ n + 1) : WtAt C H3 S o dx Qa Ba q b (upF qs p.1 e') bg (n + 1) := by
  obtain ⟨o1, o2, o3⟩ := h.on
  have mm : p.2 ∈ q.map (·.2) := List.mem_map_of_mem m
  exact { h with
    ob := kp _ _ (o3 p m) h.ob, hQ := kp _ _ (fun z => h.nQ (z ▸ mm)) h.hQ, hB := kp _ _ (fun z => h.nB (z ▸ mm)) h.hB
    row := fun p' m' => by
      by_cases e : p'.2 = p.2
      · have := q_same h.na m' m e
        subst this
        rw [upF_at]
        exact hl
      · rw [upF_ne (fun z => e (by rw [k_same h.nk m' m z]))]
        exact kp _ _ e (h.row p' m')
    no := fun k hk => by
      rw [upF_ne (fun z => hk (by rw [z]; exact List.mem_map_of_mem m))]
      exact h.no k hk
    bn := fun k => by
      by_cases e : k = p.1
      · rw [e, upF_at]; exact be
      · rw [upF_ne e]; exact Nat.le_succ_of_le (h.bn k)
    bb := Nat.le_succ_of_le h.bb
    bq := Nat.le_succ_of_le h.bq
    live := fun x mx => by
      by_cases e : x = p.2
      · exact ⟨_, e ▸ hl⟩
      · obtain ⟨y, hy⟩ := h.live x mx
        exact ⟨y, kp x y e hy⟩ }
theorem pt_new {m : List (Int × V)} {k : Int} {v : V} (h : Rd.lk m k = none) : Rd.pt m k v = m ++ [(k, v)] := by
  unfold Rd.pt
  rw [if_neg]
  intro z
  obtain ⟨x, mx, hx⟩ := List.any_eq_true.mp z
  unfold Rd.lk at h
  cases e : m.find? fun p => decide (p.1 = k) with
  | none => exact absurd hx (by simpa using List.find?_eq_none.mp e x mx)
  | some y => rw [e] at h; cases h
/-- a new queue -/
theorem WtAt.new {C o dx Qa Ba z : Addr} {H H3 : Hp} {S : Addr → Prop} {q : List (Int × Addr)} {b : List (Int × V)} {qs : Int → List Int} {bg : Int → Bool} {n : Nat} (h : WtAt C H S o dx Qa Ba q b qs bg n) {k t : Int} (k1 : 1 ≤ k) (k2 : k ≤ 10) (nk : k ∉ q.map (·.1)) (nz : H z = none)
    (hz : H3 z = some (.lst [.int t])) (hQ : H3 Qa = some (Rd.DI ((q.map fun p => (p.1, V.ref p.2)) ++ [(k, .ref z)]))) (kp : ∀ b x, b ≠ Qa → b ≠ z → H b = some x → H3 b = some x) : WtAt C H3 (fun b => S b ∨ b = z) o dx Qa Ba (q ++ [(k, z)]) b (upF qs k (qs k ++ [t])) bg (n + 1) := by
  obtain ⟨o1, o2, o3⟩ := h.on
  have inz : ∀ {b}, S b → b ≠ z := fun m e => by obtain ⟨x, hx⟩ := h.live _ m; rw [e, nz] at hx; cases hx
  have zm : z ∉ q.map (·.2) := fun m => by obtain ⟨p, mp, e⟩ := List.mem_map.mp m; exact inz (h.sr p mp) e
  exact {
    ob := kp _ _ o1 (inz h.so) h.ob, hQ := by rw [hQ, List.map_append]; rfl, hB := kp _ _ h.QB.symm (inz h.sB) h.hB
    row := fun p m => by
      rcases List.mem_append.mp m with m | m
      · rw [upF_ne (fun e => nk (by rw [← e]; exact List.mem_map_of_mem m))]
        exact kp _ _ (fun e => h.nQ (by rw [← e]; exact List.mem_map_of_mem m)) (inz (h.sr p m)) (h.row p m)
      · rw [List.mem_singleton.mp m]
        dsimp only
        rw [upF_at, h.no k nk]
        exact hz
    nk := by rw [List.map_append]; exact List.nodup_append.mpr ⟨h.nk, by simp, fun a m b m2 e => nk (by simp at m2; rw [← m2, ← e]; exact m)⟩
    na := by rw [List.map_append]; exact List.nodup_append.mpr ⟨h.na, by simp, fun a m b m2 e => zm (by simp at m2; rw [← m2, ← e]; exact m)⟩
    rng := fun p m => (List.mem_append.mp m).elim (h.rng p) fun m => by rw [List.mem_singleton.mp m]; exact ⟨k1, k2⟩
    no := fun j hj => by
      simp at hj
      rw [upF_ne hj.2]
      exact h.no j (fun m => by obtain ⟨p, mp, e⟩ := List.mem_map.mp m; exact hj.1 p.2 (by rw [← e]; exact mp))
    bgd := h.bgd
    nQ := by rw [List.map_append]; intro m; exact (List.mem_append.mp m).elim h.nQ fun m => inz h.sQ (by simpa using m)
    nB := by rw [List.map_append]; intro m; exact (List.mem_append.mp m).elim h.nB fun m => inz h.sB (by simpa using m)
    QB := h.QB, so := .inl h.so, sQ := .inl h.sQ, sB := .inl h.sB
    sr := fun p m => (List.mem_append.mp m).elim (fun m => .inl (h.sr p m)) fun m => by rw [List.mem_singleton.mp m]; exact .inr rfl
    bn := fun j => by
      by_cases e : j = k
      · rw [e, upF_at, h.no k nk]; simp
      · rw [upF_ne e]; exact Nat.le_succ_of_le (h.bn j)
    bb := Nat.le_succ_of_le h.bb
    bq := by have := h.bq; simp; omega
    live := fun x m => by
      by_cases e1 : x = Qa
      · exact ⟨_, e1 ▸ hQ⟩
      by_cases e2 : x = z
      · exact ⟨_, e2 ▸ hz⟩
      obtain ⟨y, hy⟩ := h.live x (m.resolve_right e2)
      exact ⟨y, kp x y e1 e2 hy⟩ }
def sp_Waiting_arrive (C : Addr) : Sp := fun vs H Q _ => ∃ (o : Addr) (k t : Int) (S : Addr → Prop) (qs : Int → List Int) (bg : Int → Bool) (n : Nat), vs = [.ref o, .int k, .int t] ∧ Wt C H S o qs bg n ∧ n ≤ 1000 ∧ 1 ≤ k ∧ k ≤ 10 ∧
  ∀ H' S', Wt C H' S' o (upF qs k (qs k ++ [t])) bg (n + 1) → Kp S H H' → Gr S S' H → Q .non H'
theorem ok_Waiting_arrive (T : Top K mg) : FnOk P w K mg base CX0 1 T.a_Waiting_arrive T.d_Waiting_arrive ["self", "number", "time"]  (sp_Waiting_arrive T.C_Waiting) := by
  refine T.F_Waiting_arrive.ok sc_Waiting_arrive (fun vs H Q E h => ?_) (fun cdv A outer s H vs Q E hr h => ?_)
  · obtain ⟨_, _, _, _, _, _, _, rfl, _⟩ := h
    rfl
  · obtain ⟨o, k, t, S, qs, bg, n, rfl, ⟨dx, Qa, Ba, q, b, h⟩, n1, k1, k2, qq⟩ := h
    have c1 := T.cl_Waiting
    have c2 := T.n_Waiting_queues
    have f1 := wf_q (Qa := Qa) (Ba := Ba)
    have h1 := h.ob
    have h2 := h.hQ
    refine ⟨_, (pss_one (ps_expr (pe_bm PySem.F.plainAttrs_list PySem.F.slot_list_append PySem.F.type_list_append mt_append (pe_dsetd (pe_fld (pv 0) rfl) (pv 1) (pe_lst pa_nil) ⟨by rfl, by rfl, by rfl, by rfl⟩) (pa_cons (pv 2) pa_nil)))), ?_⟩
    rw [show ∀ a0 a1 a2 : V, L2.start ["self", "number", "time"] [a0, a1, a2] = [some a0, some a1, some a2] from fun _ _ _ => rfl]
    walk_at "my rn"
    intro z H1 nz s1 hz
    have hw := h.keep (m := n) (fun b x _ e => s1 b x e) (Nat.le_refl _)
    have hQ1 := s1 _ _ h2
    have lq := h.bq
    refine Rd.dsetdI hQ1 (by rw [List.length_map]; omega) (fun v e => ?_) (fun e => ?_)
    · obtain ⟨p, mp, rfl, rfl⟩ := q_some e
      have hrow := hw.row p mp
      walk_at "my rn"
      refine Rd.app hrow (Rd.szl (by have := h.bn p.1; rw [List.length_map]; omega)) ?_
      refine qq _ S ⟨dx, Qa, Ba, q, b, hw.put mp (by rw [upd_same, List.map_append]; rfl) (fun b x n e => by rw [upd_ne n]; exact e) (by have := h.bn p.1; simp; omega)⟩ (fun b x nb e => ?_) (fun b m => .inl m)
      rw [upd_ne (fun z => nb (by rw [z]; exact h.sr p mp))]
      exact s1 _ _ e
    · have nk : k ∉ q.map (·.1) := fun m => by
        obtain ⟨p, mp, rfl⟩ := List.mem_map.mp m
        rw [q_lk h.nk mp] at e
        cases e
      rw [pt_new e]
      have zQ : z ≠ Qa := fun w => by rw [w, h2] at nz; cases nz
      have hz2 : (upd H1 Qa (Rd.DI ((q.map fun p => (p.1, V.ref p.2)) ++ [(k, .ref z)]))) z = some (.lst []) := by rw [upd_ne zQ]; exact hz
      walk_at "my rn"
      refine Rd.app hz2 (by decide) ?_
      refine qq _ (fun b => S b ∨ b = z) ⟨dx, Qa, Ba, q ++ [(k, z)], b, h.new (t := t) k1 k2 nk nz upd_same ?_ (fun b x n1 n2 e => ?_)⟩ (fun b x nb e => ?_) (fun b m => m.elim .inl fun w => .inr (by rw [w]; exact nz))
      · rw [upd_ne zQ.symm, upd_same]
      · rw [upd_ne n2, upd_ne n1]
        exact s1 _ _ e
      · have b1 : b ≠ Qa := fun w => nb (by rw [w]; exact h.sQ)
        have b2 : b ≠ z := fun w => by rw [w, nz] at e; cases e
        rw [upd_ne b2, upd_ne b1]
        exact s1 _ _ e
def Hi (qs : Int → List Int) (bg : Int → Bool) (m : Int) : Prop := (1 ≤ m ∧ m ≤ 10 ∧ qs m ≠ [] ∧ bg m = false ∧ ∀ k, 1 ≤ k → k ≤ 10 → qs k ≠ [] → bg k = false → k ≤ m) ∨ (m = 0 ∧ ∀ k, 1 ≤ k → k ≤ 10 → qs k ≠ [] → bg k = false → False)
def sp_Waiting_highest (C : Addr) : Sp := fun vs H Q _ => ∃ (o : Addr) (S : Addr → Prop) (qs : Int → List Int) (bg : Int → Bool) (n : Nat), vs = [.ref o] ∧ Wt C H S o qs bg n ∧ n ≤ 1000 ∧ ∀ m H', Same H H' → Hi qs bg m → Q (.int m) H'
theorem ok_Waiting_highest (T : Top K mg) : FnOk P w K mg base CX0 1 T.a_Waiting_highest T.d_Waiting_highest ["self"]  (sp_Waiting_highest T.C_Waiting) := by
  refine T.F_Waiting_highest.ok sc_Waiting_highest (fun vs H Q E h => ?_) (fun cdv A outer s H vs Q E hr h => ?_)
  · obtain ⟨_, _, _, _, _, rfl, _⟩ := h
    rfl
  · obtain ⟨o, S, qs, bg, n, rfl, ⟨dx, Qa, Ba, q, b, h⟩, n1, qq⟩ := h
    have c1 := T.cl_Waiting
    have c2 := T.n_Waiting_queues
    have c3 := T.n_Waiting_begun
    have f1 := wf_q (Qa := Qa) (Ba := Ba)
    have f2 := wf_b (Qa := Qa) (Ba := Ba)
    obtain ⟨o1, o2, o3⟩ := h.on
    refine ⟨_, (pss_cons (ps_lock (ps_setLc (i := 1) (own := [("number", 2), ("times", 3)]) (g := (gTup K 2 (gCons (gName 2) (gCons (gName 3) gNil)))) rfl sc_Waiting_highest.nd rfl rfl (sw_true rfl rfl rfl (by decide +kernel)) (pi_items (pe_fld (pv 0) rfl)) (blkOk_by (N := ["self", "ready", "number", "times"]) (sc := defScope s_Waiting_highest) (by decide +kernel)) (fun _ _ _ _ _ => (pg_tup rfl (pgs_cons (pg_name (i := 2) sc_Waiting_highest.nd rfl (Or.inl rfl)) (pgs_cons (pg_name (i := 3) sc_Waiting_highest.nd rfl (Or.inl rfl)) pgs_nil)))) (fun _ _ _ _ _ => pts_one (pw_and (pt_cmpR op_gt (pe_callB (show CallR _ (Value.builtin "len") (Evl.rLenS K) from call_len_seq) (by rfl) T.m_len PySem.boot_len (pa_cons (pv 3) pa_nil)) pe_int (nomark _)) (pw_and1 (pt_cmp (pc_dnotin (hu_of hr) (pv 2) (show PE _ _ (tFld K _ "begun") from pe_fld (pv 0) rfl))))).pt) (fun _ _ _ _ _ => (pv 2))))
  (pss_one (ps_ret (pe_callBK (cr_maxDf rfl (Rd.room65 hr)) (by rfl) T.m_max (by decide +kernel) (pa_cons (pv 1) pa_nil) (pk_cons pe_int pk_nil))))), ?_⟩
    rw [show ∀ a0 : V, L2.start ["self", "ready", "number", "times"] [a0] = [some a0, none, none, none] from fun _ => rfl]
    walk_at "my rn"
    refine Rd.lockS h.hQ fun od => ?_
    have h1 : (upd H Qa (.frz od (Rd.DI (q.map fun p => (p.1, V.ref p.2))))) o = some (.ins T.C_Waiting dx (wf Qa Ba)) := by rw [upd_ne o1]; exact h.ob
    walk_at "my rn"
    intro D nD
    have oD : o ≠ D := fun z => by rw [← z, h1] at nD; cases nD
    have QD : Qa ≠ D := fun z => by rw [← z, upd_same] at nD; cases nD
    have base : ∀ H', Rd.But D (upd H Qa (.frz od (Rd.DI (q.map fun p => (p.1, V.ref p.2))))) H' → ∀ b x, b ≠ Qa → H b = some x → H' b = some x := fun H' bt b x n e => by
      have e2 : (upd H Qa (.frz od (Rd.DI (q.map fun p => (p.1, V.ref p.2))))) b = some x := by rw [upd_ne n]; exact e
      exact bt.to nD _ _ e2
    refine lc_some walk_items (fun v => 1 ≤ v ∧ v ≤ 10 ∧ qs v ≠ [] ∧ bg v = false) (fun i u => ∃ p, q[i]? = some p ∧ u = p.1 ∧ qs p.1 ≠ [] ∧ bg p.1 = false) nD (by have := h.bq; simp; omega) (fun H' bt => bt.to nD _ _ upd_same) (fun i x H3 H4 Kt Kn hi bt y kt kn => ?_) (fun H5 ys hy hc _ s5 hD5 => ?_)
    · obtain ⟨T', pv, hpi, rfl, nT, rfl⟩ := Rd.items_at y
      rw [List.getElem?_map] at hpi
      obtain ⟨p, hp, rfl⟩ : ∃ p, q[i]? = some p ∧ (p.1, V.ref p.2) = pv := by
        cases z : q[i]? with
        | none => rw [z] at hpi; cases hpi
        | some p => rw [z] at hpi; exact ⟨p, rfl, Option.some.inj hpi⟩
      have mp := List.mem_of_getElem? hp
      have g := base H3 bt
      have sT := same_new (o := .tup [.int p.1, .ref p.2]) nT
      have hrow := sT _ _ (g _ _ (fun z => h.nQ (by rw [← z]; exact List.mem_map_of_mem mp)) (h.row p mp))
      have ho4 := sT _ _ (g _ _ o1 h.ob)
      have hB4 := sT _ _ (g _ _ h.QB.symm h.hB)
      have rg := h.rng p mp
      simp only [List.map_cons, List.map_nil, L2.wipe, List.set_cons_succ, List.set_cons_zero]
      refine Rd.gtup upd_same rfl ?_
      walk_at "my rn"
      refine ⟨rfl, ?_⟩
      walk_at "my rn"
      refine ⟨_, _, rfl, .inl (SqL.of hrow), ?_⟩
      walk_at "my rn"
      rw [List.length_map]
      refine Rd.ifD (fun c1 => ?_) (fun c1 => ?_)
      · walk_at "my rn"
        refine Rd.dnotI (Rd.rd_of hB4) ?_
        rw [← h.bgd]
        walk_at "my rn"
        refine Rd.ifNB (fun c2 => ?_) (fun c2 => ?_)
        · walk_at "my rn"
          exact kt _ _ ⟨rg.1, rg.2, fun z => by rw [z] at c1; simp at c1, c2⟩ (fun u ⟨p', e, eu, _⟩ => by rw [hp] at e; cases e; exact eu) sT
        · exact kn _ (fun u ⟨p', e, _, _, z⟩ => by rw [hp] at e; cases e; rw [c2] at z; cases z) sT
      · exact kn _ (fun u ⟨p', e, _, z, _⟩ => by
          rw [hp] at e; cases e
          exact z (List.length_eq_zero_iff.mp (by omega))) sT
    · have hQ5 := s5 _ _ upd_same
      walk_at "my rn"
      refine ⟨hQ5, ?_⟩
      have sF : Same H (upd H5 Qa (Rd.DI (q.map fun p => (p.1, V.ref p.2)))) := Rd.unlock h.hQ fun b x n e => s5 _ _ (by rw [upd_ne n]; exact e)
      have hD6 : (upd H5 Qa (Rd.DI (q.map fun p => (p.1, V.ref p.2)))) D = some (.lst (ys.map V.int)) := by rw [upd_ne QD.symm]; exact hD5
      have cm : ∀ k, 1 ≤ k → k ≤ 10 → qs k ≠ [] → bg k = false → k ∈ ys := fun k _ _ k3 k4 => by
        by_cases mk : k ∈ q.map (·.1)
        · obtain ⟨p, mp, rfl⟩ := List.mem_map.mp mk
          obtain ⟨i, hi⟩ := List.mem_iff_getElem?.mp mp
          have hlt := (List.getElem?_eq_some_iff.mp hi).1
          exact hc i p.1 (by simpa using hlt) ⟨p, hi, rfl, k3, k4⟩
        · exact absurd (h.no k mk) k3
      walk_at "my rn"
      refine Rd.maxDf hD6 (fun e => ?_) (fun m m1 m2 => ?_)
      · refine qq 0 _ sF (.inr ⟨rfl, fun k a b c d => ?_⟩)
        have := cm k a b c d
        rw [e] at this
        simp at this
      · obtain ⟨a, b, c, d⟩ := hy m m1
        exact qq m _ sF (.inl ⟨a, b, c, d, fun k a' b' c' d' => m2 k (cm k a' b' c' d')⟩)
def sp_Waiting_begin (C : Addr) : Sp := fun vs H Q _ => ∃ (o : Addr) (k x : Int) (r : List Int) (S : Addr → Prop) (qs : Int → List Int) (bg : Int → Bool) (n : Nat), vs = [.ref o, .int k] ∧ Wt C H S o qs bg n ∧ n ≤ 1000 ∧ qs k = x :: r ∧
  ∀ H', Wt C H' S o (upF qs k r) (upF bg k true) (n + 1) → Kp S H H' → Q (.int x) H'
theorem ok_Waiting_begin (T : Top K mg) : FnOk P w K mg base CX0 1 T.a_Waiting_begin T.d_Waiting_begin ["self", "number"]  (sp_Waiting_begin T.C_Waiting) := by
  refine T.F_Waiting_begin.ok sc_Waiting_begin (fun vs H Q E h => ?_) (fun cdv A outer s H vs Q E hr h => ?_)
  · obtain ⟨_, _, _, _, _, _, _, _, rfl, _⟩ := h
    rfl
  · obtain ⟨o, k, x, r, S, qs, bg, n, rfl, ⟨dx, Qa, Ba, q, b, h⟩, n1, hk, qq⟩ := h
    have c1 := T.cl_Waiting
    have c2 := T.n_Waiting_queues
    have c3 := T.n_Waiting_begun
    have f1 := wf_q (Qa := Qa) (Ba := Ba)
    have f2 := wf_b (Qa := Qa) (Ba := Ba)
    have h1 := h.ob
    obtain ⟨o1, o2, o3⟩ := h.on
    have mk : k ∈ q.map (·.1) := Classical.byContradiction fun m => by rw [h.no k m] at hk; cases hk
    obtain ⟨p, mp, rfl⟩ := List.mem_map.mp mk
    refine ⟨_, (pss_cons (ps_dput (hu_of hr) (pe_fld (pv 0) rfl) (pv 1) pe_bl rfl)
  (pss_one (ps_ret (pe_bm PySem.F.plainAttrs_list PySem.F.slot_list_pop PySem.F.type_list_pop mt_popAt (pe_dget (hu_of hr) (pe_fld (pv 0) rfl) (pv 1) (fun _ _ => rfl)) (pa_cons pe_int pa_nil))))), ?_⟩
    rw [show ∀ a0 a1 : V, L2.start ["self", "number"] [a0, a1] = [some a0, some a1] from fun _ _ => rfl]
    walk_at "my rn"
    refine Rd.dputI h.hB (by have := h.bb; omega) ?_
    obtain ⟨H1, e1⟩ : ∃ H1, H1 = upd H Ba (Rd.DI (Rd.pt b p.1 (.bl true))) := ⟨_, rfl⟩
    rw [← e1]
    have k1 : ∀ b x, b ≠ Ba → H b = some x → H1 b = some x := fun b x n e => by rw [e1, upd_ne n]; exact e
    have g1 := k1 _ _ o2 h1
    have gQ := k1 _ _ h.QB h.hQ
    have pB : p.2 ≠ Ba := fun z => h.nB (by rw [← z]; exact List.mem_map_of_mem mp)
    have gr := k1 _ _ pB (h.row p mp)
    rw [hk] at gr
    walk_at "my rn"
    refine Rd.dgetI (Rd.rd_of gQ) (q_lk h.nk mp) ?_
    walk_at "my rn"
    refine ⟨p.2, _, 0, 0, .int x, rfl, rfl, gr, by decide, by decide, by unfold seqIndex?; simp, rfl, ?_⟩
    have hw1 : WtAt T.C_Waiting H1 S o dx Qa Ba q (Rd.pt b p.1 (.bl true)) qs (upF bg p.1 true) (n + 1) := { h with
      ob := g1, hQ := gQ, hB := by rw [e1]; exact upd_same
      row := fun p' m' => k1 _ _ (fun z => h.nB (by rw [← z]; exact List.mem_map_of_mem m')) (h.row p' m')
      bgd := fun j => by
        rw [Rd.lk_pt]
        by_cases e : j = p.1
        · rw [if_pos e, e, upF_at]; rfl
        · rw [if_neg e, upF_ne e]; exact h.bgd j
      bn := fun j => Nat.le_succ_of_le (h.bn j), bb := by have := Rd.pt_len (m := b) (k := p.1) (v := .bl true); have := h.bb; omega, bq := Nat.le_succ_of_le h.bq
      live := fun y m => by
        by_cases e : y = Ba
        · exact ⟨_, by rw [e, e1]; exact upd_same⟩
        · obtain ⟨z, hz⟩ := h.live y m
          exact ⟨z, k1 y z e hz⟩ }
    have hw2 := hw1.put (H3 := upd H1 p.2 (.lst (r.map V.int))) mp (e' := r) upd_same (fun b x n e => by rw [upd_ne n]; exact e) (by have := h.bn p.1; rw [hk] at this; simp at this; omega)
    refine qq _ ⟨dx, Qa, Ba, q, _, { hw2 with bn := fun j => ?_, bb := hw1.bb, bq := hw1.bq }⟩ (fun b y nb e => ?_)
    · by_cases e : j = p.1
      · rw [e, upF_at]
        have := h.bn p.1
        rw [hk] at this
        simp at this
        omega
      · rw [upF_ne e]; exact Nat.le_succ_of_le (h.bn j)
    · have b1 : b ≠ Ba := fun w => nb (by rw [w]; exact h.sB)
      have b2 : b ≠ p.2 := fun w => nb (by rw [w]; exact h.sr p mp)
      show (upd H1 p.2 _) b = some y
      rw [upd_ne b2]
      exact k1 b y b1 e
def sp_Waiting_end (C : Addr) : Sp := fun vs H Q _ => ∃ (o : Addr) (k : Int) (S : Addr → Prop) (qs : Int → List Int) (bg : Int → Bool) (n : Nat), vs = [.ref o, .int k] ∧ Wt C H S o qs bg n ∧ bg k = true ∧
  ∀ H', Wt C H' S o qs (upF bg k false) n → Kp S H H' → Q .non H'
theorem ok_Waiting_end (T : Top K mg) : FnOk P w K mg base CX0 1 T.a_Waiting_end T.d_Waiting_end ["self", "number"]  (sp_Waiting_end T.C_Waiting) := by
  refine T.F_Waiting_end.ok sc_Waiting_end (fun vs H Q E h => ?_) (fun cdv A outer s H vs Q E hr h => ?_)
  · obtain ⟨_, _, _, _, _, _, rfl, _⟩ := h
    rfl
  · obtain ⟨o, k, S, qs, bg, n, rfl, ⟨dx, Qa, Ba, q, b, h⟩, hk, qq⟩ := h
    have c1 := T.cl_Waiting
    have c3 := T.n_Waiting_begun
    have f2 := wf_b (Qa := Qa) (Ba := Ba)
    have h1 := h.ob
    obtain ⟨o1, o2, o3⟩ := h.on
    refine ⟨_, (pss_one (ps_ddel (pe_fld (pv 0) rfl) (pv 1))), ?_⟩
    rw [show ∀ a0 a1 : V, L2.start ["self", "number"] [a0, a1] = [some a0, some a1] from fun _ _ => rfl]
    walk_at "my rn"
    refine Rd.ddelI h.hB (by rw [← h.bgd]; exact hk) ?_
    have k1 : ∀ x y, x ≠ Ba → H x = some y → (upd H Ba (Rd.DI (Rd.dr b k))) x = some y := fun b x n e => by rw [upd_ne n]; exact e
    refine qq _ ⟨dx, Qa, Ba, q, Rd.dr b k, { h with
      ob := k1 _ _ o2 h1, hQ := k1 _ _ h.QB h.hQ, hB := upd_same
      row := fun p' m' => k1 _ _ (fun z => h.nB (by rw [← z]; exact List.mem_map_of_mem m')) (h.row p' m')
      bgd := fun j => by
        rw [Rd.lk_dr]
        by_cases e : j = k
        · rw [if_pos e, e, upF_at]; rfl
        · rw [if_neg e, upF_ne e]; exact h.bgd j
      bb := Nat.le_trans (List.length_filter_le _ _) h.bb
      live := fun y m => by
        by_cases e : y = Ba
        · exact ⟨_, by rw [e]; exact upd_same⟩
        · obtain ⟨z, hz⟩ := h.live y m
          exact ⟨z, k1 y z e hz⟩ }⟩ (fun b y nb e => k1 b y (fun w => nb (by rw [w]; exact h.sB)) e)
def sp_Waiting_times (C : Addr) : Sp := fun vs H Q _ => ∃ (o : Addr) (k : Int) (S : Addr → Prop) (qs : Int → List Int) (bg : Int → Bool) (n : Nat), vs = [.ref o, .int k] ∧ Wt C H S o qs bg n ∧
  ∀ H' D, Same H H' → H D = none → H' D = some (.lst ((qs k).map V.int)) → Q (.ref D) H'
theorem ok_Waiting_times (T : Top K mg) : FnOk P w K mg base CX0 1 T.a_Waiting_times T.d_Waiting_times ["self", "number"]  (sp_Waiting_times T.C_Waiting) := by
  refine T.F_Waiting_times.ok sc_Waiting_times (fun vs H Q E h => ?_) (fun cdv A outer s H vs Q E hr h => ?_)
  · obtain ⟨_, _, _, _, _, _, rfl, _⟩ := h
    rfl
  · obtain ⟨o, k, S, qs, bg, n, rfl, ⟨dx, Qa, Ba, q, b, h⟩, qq⟩ := h
    have c1 := T.cl_Waiting
    have c2 := T.n_Waiting_queues
    have f1 := wf_q (Qa := Qa) (Ba := Ba)
    have h1 := h.ob
    have h2 := h.hQ
    refine ⟨_, (pss_one (ps_ret (pe_callTy call_list_of (by rfl) T.m_list (by decide +kernel) (pa_cons (pe_dget2 (hu_of hr) (pe_fld (pv 0) rfl) (pv 1) (pe_lst pa_nil) ⟨by rfl, by rfl, by rfl, by rfl⟩) pa_nil)))), ?_⟩
    rw [show ∀ a0 a1 : V, L2.start ["self", "number"] [a0, a1] = [some a0, some a1] from fun _ _ => rfl]
    walk_at "my rn"
    intro z H1 nz s1 hz
    have hQ1 := s1 _ _ h2
    refine Rd.dget2I (Rd.rd_of hQ1) ?_
    by_cases mk : k ∈ q.map (·.1)
    · obtain ⟨p, mp, rfl⟩ := List.mem_map.mp mk
      rw [q_lk h.nk mp]
      have hr := s1 _ _ (h.row p mp)
      walk_at "my rn"
      show Rd.ListOf K _ [.ref p.2] H1
      exact Rd.listOf hr fun D H2 nD s2 hD => qq _ D (s1.trans s2) (s1.free nD) hD
    · rw [q_none mk]
      have e := h.no k mk
      walk_at "my rn"
      show Rd.ListOf K _ [.ref z] H1
      exact Rd.listOf hz fun D H2 nD s2 hD => qq _ D (s1.trans s2) (s1.free nD) (by rw [e]; exact hD)
end

end Mine

set_option Elab.async false
set_option linter.all false
set_option maxRecDepth 100000
set_option maxHeartbeats 1000000

namespace Mine
open PySem PySem.Spec PyProof.Rows L2
local macro_rules | `(tactic| walk_at "my rn") => `(tactic| (repeat (first | with_reducible refine Rd.fld ?_ | with_reducible refine Rd.sfld ?_ | with_reducible refine Rd.meth ?_ | with_reducible refine Rd.make ?_ | with_reducible refine Rd.izip ?_ | with_reducible refine Rd.ckw ?_ | with_reducible refine Rd.dsetd ?_ | with_reducible refine Rd.ddel ?_ | with_reducible refine Rd.dnew ?_ | with_reducible refine Rd.din ?_ | with_reducible refine Rd.dnot ?_ | with_reducible refine Rd.dget ?_ | with_reducible refine Rd.dget2 ?_ | with_reducible refine Rd.dput ?_ | with_reducible refine Rd.cbDictOf ?_ | with_reducible refine Rd.iitems ?_ | with_reducible refine Rd.ikeys ?_ | with_reducible refine Rd.dc ?_ | with_reducible refine Rd.nwD ?_ | with_reducible refine Rd.tupN ?_ | with_reducible refine Rd.lstN ?_ | with_reducible refine Rd.cbListOf ?_ | with_reducible refine Rd.cbListOfR ?_ | with_reducible refine Rd.catI ?_ | with_reducible refine Rd.slN ?_ | with_reducible refine Rd.cbSrtI ?_ | with_reducible refine Rd.seq ?_ | with_reducible refine Rd.next ?_ | with_reducible refine Rd.brk ?_ | with_reducible refine Rd.cont ?_ | with_reducible refine Rd.asg ?_ | with_reducible refine Rd.ret ?_ | with_reducible refine Rd.retN ?_ | with_reducible refine Rd.drop ?_ | with_reducible refine Rd.ifs ?_ | with_reducible refine Rd.ife ?_ | with_reducible refine Rd.test ?_ | with_reducible refine Rd.tb_ ?_ | with_reducible refine Rd.bl ?_ | with_reducible refine Rd.bl2 ?_ | with_reducible refine Rd.and_ ?_ | with_reducible refine Rd.or_ ?_ | with_reducible refine Rd.not_ ?_ | with_reducible refine Rd.andV ?_ | with_reducible refine Rd.orV ?_ | with_reducible refine Rd.notV ?_ | with_reducible refine Rd.op ?_ | with_reducible refine Rd.un ?_ | with_reducible refine Rd.I0 ?_ | with_reducible refine Rd.U ?_ | with_reducible refine Rd.ip ?_ | with_reducible refine Rd.c_ ?_ | with_reducible refine Rd.nil ?_ | with_reducible refine Rd.cons ?_ | with_reducible refine Rd.call ?_ | with_reducible refine Rd.cb ?_ | with_reducible refine Rd.bm ?_ | with_reducible refine Rd.bm0 ?_ | with_reducible refine Rd.nopart ?_ | with_reducible refine Rd.part ?_ | with_reducible refine Rd.int1 ?_ | with_reducible refine Rd.ints1 ?_ | with_reducible refine Rd.ints2 ?_ | with_reducible refine Rd.gcons ?_ | with_reducible refine Rd.gnil ?_ | with_reducible refine Rd.sub ?_ | with_reducible refine Rd.isN ?_ | with_reducible refine Rd.chain ?_ | with_reducible refine Rd.rf ?_ | with_reducible refine Rd.tyS ?_ | with_reducible refine Rd.intI ?_ | with_reducible refine Rd.lc ?_ | with_reducible refine Rd.for_ ?_ | with_reducible refine Rd.ilist ?_ | with_reducible refine Rd.itup ?_ | with_reducible refine Rd.irng1 ?_ | with_reducible refine Rd.irng2 ?_ | with_reducible refine Rd.ienum ?_ | with_reducible refine Rd.istr ?_ | with_reducible refine Rd.refA ?_ | with_reducible refine Rd.strA ?_ | with_reducible refine Rd.yes ?_ | with_reducible refine Rd.ifT ?_ | with_reducible refine Rd.ifF ?_ | with_reducible refine Rd.ifnT ?_ | with_reducible refine Rd.ifnF ?_ | with_reducible refine Rd.isi_ii ?_ | with_reducible refine Rd.isi_ib ?_ | with_reducible refine Rd.isi_is ?_ | with_reducible refine Rd.isi_il ?_ | with_reducible refine Rd.isi_it ?_ | with_reducible refine Rd.isi_id ?_ | with_reducible refine Rd.isi_bi ?_ | with_reducible refine Rd.isi_bb ?_ | with_reducible refine Rd.isi_bs ?_ | with_reducible refine Rd.isi_bl ?_ | with_reducible refine Rd.isi_bt ?_ | with_reducible refine Rd.isi_bd ?_ | with_reducible refine Rd.isi_si ?_ | with_reducible refine Rd.isi_sb ?_ | with_reducible refine Rd.isi_ss ?_ | with_reducible refine Rd.isi_sl ?_ | with_reducible refine Rd.isi_st ?_ | with_reducible refine Rd.isi_sd ?_ | with_reducible refine Rd.isi_ni ?_ | with_reducible refine Rd.isi_nb ?_ | with_reducible refine Rd.isi_ns ?_ | with_reducible refine Rd.isi_nl ?_ | with_reducible refine Rd.isi_nt ?_ | with_reducible refine Rd.isi_nd ?_ | with_reducible refine Rd.sl ?_ | with_reducible refine Rd.v0 ?_ | with_reducible refine Rd.v1 ?_ | with_reducible refine Rd.v2 ?_ | with_reducible refine Rd.v3 ?_ | with_reducible refine Rd.v4 ?_ | with_reducible refine Rd.v5 ?_ | with_reducible refine Rd.v6 ?_ | with_reducible refine Rd.v7 ?_ | with_reducible refine Rd.v8 ?_ | with_reducible refine Rd.v9 ?_ | with_reducible refine Rd.v10 ?_ | with_reducible refine Rd.v11 ?_ | with_reducible refine Rd.v12 ?_ | with_reducible refine Rd.v13 ?_ | with_reducible refine Rd.v14 ?_ | with_reducible refine Rd.v15 ?_ | with_reducible refine Rd.n0 ?_ | with_reducible refine Rd.n1 ?_ | with_reducible refine Rd.n2 ?_ | with_reducible refine Rd.n3 ?_ | with_reducible refine Rd.n4 ?_ | with_reducible refine Rd.n5 ?_ | with_reducible refine Rd.n6 ?_ | with_reducible refine Rd.n7 ?_ | with_reducible refine Rd.n8 ?_ | with_reducible refine Rd.n9 ?_ | with_reducible refine Rd.n10 ?_ | with_reducible refine Rd.n11 ?_ | with_reducible refine Rd.n12 ?_ | with_reducible refine Rd.n13 ?_ | with_reducible refine Rd.n14 ?_ | with_reducible refine Rd.n15 ?_ | with_reducible refine Rd.g0 ?_ | with_reducible refine Rd.g1 ?_ | with_reducible refine Rd.g2 ?_ | with_reducible refine Rd.g3 ?_ | with_reducible refine Rd.g4 ?_ | with_reducible refine Rd.g5 ?_ | with_reducible refine Rd.g6 ?_ | with_reducible refine Rd.g7 ?_ | with_reducible refine Rd.g8 ?_ | with_reducible refine Rd.g9 ?_ | with_reducible refine Rd.g10 ?_ | with_reducible refine Rd.g11 ?_ | with_reducible refine Rd.g12 ?_ | with_reducible refine Rd.g13 ?_ | with_reducible refine Rd.g14 ?_ | with_reducible refine Rd.g15 ?_ | ((with_reducible apply Rd.fldI); (first | assumption | exact upd_same); assumption; assumption; (first | assumption | with_unfolding_all rfl)) | ((with_reducible apply Rd.methI); (first | assumption | exact upd_same); (first | assumption | with_unfolding_all rfl)) | ((with_reducible apply Rd.sfldI); (first | assumption | exact upd_same); assumption; assumption; exact Nat.le_of_ble_eq_true rfl) | ((with_reducible apply Rd.maxL); assumption) | ((with_reducible apply Rd.anyL); assumption) | ((with_reducible apply Rd.sumL); assumption) | ((with_reducible refine Rd.izI (by assumption) (by assumption) ?_)) | ((with_reducible refine Rd.eq ?_ ?_); exact rfl) | ((with_reducible refine Rd.ne ?_ ?_); exact rfl) | ((with_reducible refine Rd.szA ?_ ?_); exact Nat.le_of_ble_eq_true rfl) | ((with_reducible refine Rd.I ?_ ?_); first | assumption | decide | exact Or.inr (by decide +kernel) | exact Or.inl (by decide +kernel) | exact ⟨by decide, by decide⟩ | exact ⟨by decide, by decide, by decide⟩ | omega) | ((with_reducible apply Rd.tyL); first | assumption | exact upd_same) | ((with_reducible apply Rd.tyLq); assumption) | ((with_reducible apply Rd.ixL); (first | assumption | exact upd_same); exact rfl) | ((with_reducible apply Rd.ixT); (first | assumption | exact upd_same); exact rfl) | ((with_reducible apply Rd.ixLq); assumption; exact rfl) | ((with_reducible apply Rd.ixTq); assumption; exact rfl) | ((with_reducible apply Rd.gtup); (first | assumption | exact upd_same); exact rfl) | ((with_reducible apply Rd.gtupq); assumption; exact rfl) | ((with_reducible apply Rd.sqAq); assumption) | ((with_reducible apply Rd.stAq); assumption) | ((with_reducible apply Rd.enAq); assumption) | ((with_reducible apply Rd.lenLq); assumption) | ((with_reducible apply Rd.lenTq); assumption) | ((with_reducible apply Rd.sqA); first | assumption | exact upd_same) | ((with_reducible apply Rd.stA); first | assumption | exact upd_same) | ((with_reducible apply Rd.enA); first | assumption | exact upd_same) | ((with_reducible apply Rd.lenL); first | assumption | exact upd_same) | ((with_reducible apply Rd.lenT); first | assumption | exact upd_same) | ((with_reducible refine Rd.nwT ?_ ?_); exact Nat.le_of_ble_eq_true rfl) | ((with_reducible refine Rd.nwL ?_ ?_); exact Nat.le_of_ble_eq_true rfl) | ((with_reducible apply Rd.isd); assumption) | ((with_reducible apply Rd.dictOf); assumption) | ((with_reducible refine Rd.isi_dd (by assumption) ?_)) | ((with_reducible apply Rd.itA); first | assumption | exact upd_same) | ((with_reducible apply Rd.ikA); first | assumption | exact upd_same) | ((with_reducible apply Rd.listOf); assumption) | ((with_reducible apply Rd.listOfq); assumption) | ((with_reducible apply Rd.slo); assumption) | ((with_reducible apply Rd.slq); assumption) | ((with_reducible apply Rd.srtI); assumption) | ((with_reducible apply Rd.srtIo); assumption) | ((with_reducible refine Rd.isi_li (by assumption) ?_)) | ((with_reducible refine Rd.isi_lb (by assumption) ?_)) | ((with_reducible refine Rd.isi_ls (by assumption) ?_)) | ((with_reducible refine Rd.isi_ll (by assumption) ?_)) | ((with_reducible refine Rd.isi_lt (by assumption) ?_)) | ((with_reducible refine Rd.isi_ld (by assumption) ?_)) | ((with_reducible refine Rd.isi_ti (by assumption) ?_)) | ((with_reducible refine Rd.isi_tb (by assumption) ?_)) | ((with_reducible refine Rd.isi_ts (by assumption) ?_)) | ((with_reducible refine Rd.isi_tl (by assumption) ?_)) | ((with_reducible refine Rd.isi_tt (by assumption) ?_)) | ((with_reducible refine Rd.isi_td (by assumption) ?_)))))
/-- a comprehension over a range whose elements are drawn ints -/
theorem lc_draw {n : Nat} {g : TG} {te : TE} {vs : List Nat} {σ : L2.St} {H1 : Hp} {D p c : Addr} {Qd : Hp → Prop} (G : Int → Prop) (st : StOk H1 p c) (nD : H1 D = none) (hn : n ≤ 90000)
    (hs : ∀ (i : Nat) H (Kt : VK), i < n → StOk H p c → (∀ v H4, G v → StOk H4 p c → Keep p H H4 → Kt (.int v) H4) → g (.int (i : Int)) (wipe σ vs) H fun σ2 H2 => wipe σ2 vs = wipe σ vs ∧ te σ2 H2 Kt)
    (hd : ∀ H (ns : List Int), ns.length = n → (∀ v ∈ ns, G v) → StOk H p c → Keep p H1 H → H D = some (.lst (ns.map V.int)) → Qd H) :
    ∃ W : Nat → Nat → Hp → Prop, (∃ m, W 0 m (upd H1 D (.lst []))) ∧ ∀ i m H, W i m H →
      ((Itr 0 n).stop i H ∧ Qd H) ∨ ((Itr 0 n).go i H ∧ ∃ Nx : Hp → Prop, (∀ H', Nx H' → ∃ m', m' < m ∧ W (i + 1) m' H') ∧ ∀ x H', (Itr 0 n).yld i H x H' → g x (wipe σ vs) H' fun σ2 H2 => wipe σ2 vs = wipe σ vs ∧ tYes σ2 H2 fun b H3 =>
        if b = true then te σ2 H3 fun y H4 => ∃ acc, H4 D = some (.lst acc) ∧ acc.length < sizeLine ∧ Nx (upd H4 D (.lst (acc ++ [y]))) else Nx H3) := by
  have pD := st.ne nD
  have stk : ∀ {H H' : Hp} {o : HO}, StOk H' p c → StOk (upd H' D o) p c := fun s => by
    obtain ⟨ms, k, v, sd, a, b, d, r⟩ := s
    exact ⟨ms, k, v, sd, a, by rw [upd_ne pD.1.symm]; exact b, by rw [upd_ne pD.2.symm]; exact d, r⟩
  refine lc_it walk_range (fun i H => ∃ ns : List Int, ns.length = i ∧ (∀ v ∈ ns, G v) ∧ StOk H p c ∧ Keep p H1 H ∧ H D = some (.lst (ns.map V.int))) ⟨[], rfl, by simp, stk (H := H1) st, Keep.same (same_new nD), upd_same⟩ (fun _ _ _ _ => trivial) (fun i x H H' hi h y => ?_) (fun H ⟨ns, a, b, d, e, f⟩ => hd H ns a b d e f)
  obtain ⟨ns, ln, gn, s1, k1, hD⟩ := h
  obtain ⟨rfl, e⟩ := Rd.zr y
  subst e
  refine hs i _ _ hi s1 fun v H4 gv s4 k4 => ?_
  have hD4 := k4 _ _ pD.1 hD
  refine ⟨_, hD4, Rd.szl (by rw [List.length_map]; omega), ns ++ [v], by simp [ln], fun u m => ?_, stk (H := H4) s4, fun b o n1 h => ?_, by rw [upd_same, List.map_append]; rfl⟩
  · rcases List.mem_append.mp m with m | m
    · exact gn u m
    · rw [List.mem_singleton.mp m]; exact gv
  · have nb : b ≠ D := fun z => by rw [z, nD] at h; cases h
    rw [upd_ne nb]
    exact k4 b o n1 (k1 b o n1 h)

/-! ### the law's lists -/
def bgL (bg : Int → Bool) : List V := (List.range 11).map fun (i : Nat) => V.bl (bg (i : Int))
theorem bgL_len {bg : Int → Bool} : (bgL bg).length = 11 := by simp [bgL]
theorem bgL_at {bg : Int → Bool} {k : Int} (h0 : 0 ≤ k) (h1 : k ≤ 10) : atI (bgL bg) k = some (.bl (bg k)) := by
  refine Rd.at_val (j := k.toNat) (by omega) ?_
  unfold bgL
  rw [List.getElem?_map, List.getElem?_range (by omega)]
  show some (V.bl (bg ((k.toNat : Nat) : Int))) = _
  rw [show ((k.toNat : Nat) : Int) = k by omega]
theorem bgL_set {bg : Int → Bool} {k : Int} {v : Bool} (h0 : 0 ≤ k) (h1 : k ≤ 10) : (bgL bg).set k.toNat (.bl v) = bgL (upF bg k v) := by
  unfold bgL
  refine List.ext_getElem? fun i => ?_
  rw [List.getElem?_set, List.getElem?_map]
  by_cases hi : i < 11
  · by_cases e : k.toNat = i
    · rw [if_pos e, if_pos (by simp; omega), List.getElem?_map, List.getElem?_range hi]
      show some _ = some (V.bl (upF bg k v (i : Int)))
      rw [show (i : Int) = k by omega, upF_at]
    · rw [if_neg e, List.getElem?_map, List.getElem?_range hi]
      show some (V.bl (bg (i : Int))) = some (V.bl (upF bg k v (i : Int)))
      rw [upF_ne (by omega)]
  · rw [if_neg (by omega), List.getElem?_map, List.getElem?_eq_none (by simp; omega)]
    rfl
structure LqAt (H : Hp) (U : Addr → Prop) (Qg Bg : Addr) (ls : List Addr) (qs : Int → List Int) (bg : Int → Bool) : Prop where
  hQ : H Qg = some (.lst (ls.map V.ref))
  hB : H Bg = some (.lst (bgL bg))
  len : ls.length = 11
  row : ∀ (i : Nat) l, ls[i]? = some l → H l = some (.lst ((qs (i : Int)).map V.int))
  nd : ∀ (i j : Nat) l, ls[i]? = some l → ls[j]? = some l → i = j
  QB : Qg ≠ Bg
  nQ : Qg ∉ ls
  nB : Bg ∉ ls
  uQ : U Qg
  uB : U Bg
  ul : ∀ l ∈ ls, U l
  live : ∀ b, U b → ∃ x, H b = some x
section
variable {H H3 : Hp} {U : Addr → Prop} {Qg Bg : Addr} {ls : List Addr} {qs : Int → List Int} {bg : Int → Bool}
theorem LqAt.keep (h : LqAt H U Qg Bg ls qs bg) (k : ∀ b x, U b → H b = some x → H3 b = some x) : LqAt H3 U Qg Bg ls qs bg :=
  { h with hQ := k _ _ h.uQ h.hQ, hB := k _ _ h.uB h.hB, row := fun i l a => k _ _ (h.ul l (List.mem_of_getElem? a)) (h.row i l a), live := fun b m => let ⟨x, e⟩ := h.live b m; ⟨x, k b x m e⟩ }
theorem LqAt.at_ (h : LqAt H U Qg Bg ls qs bg) {k : Int} (h0 : 0 ≤ k) (h1 : k ≤ 10) : ∃ l, ls[k.toNat]? = some l ∧ atI (ls.map V.ref) k = some (.ref l) ∧ H l = some (.lst ((qs k).map V.int)) := by
  obtain ⟨l, hl⟩ : ∃ l, ls[k.toNat]? = some l := ⟨_, List.getElem?_eq_getElem (by rw [h.len]; omega)⟩
  have r := h.row _ _ hl
  rw [show ((k.toNat : Nat) : Int) = k by omega] at r
  exact ⟨l, hl, Rd.at_val (j := k.toNat) (by omega) (by rw [List.getElem?_map, hl]; rfl), r⟩
/-- a flag is set -/
theorem LqAt.flag (h : LqAt H U Qg Bg ls qs bg) {k : Int} {v : Bool} (h0 : 0 ≤ k) (h1 : k ≤ 10) (hB : H3 Bg = some (.lst ((bgL bg).set k.toNat (.bl v)))) (kp : ∀ b x, b ≠ Bg → H b = some x → H3 b = some x) : LqAt H3 U Qg Bg ls qs (upF bg k v) :=
  { h with
    hQ := kp _ _ h.QB h.hQ, hB := by rw [hB, bgL_set h0 h1]
    row := fun i l a => kp _ _ (fun z => h.nB (by rw [← z]; exact List.mem_of_getElem? a)) (h.row i l a)
    live := fun b m => by
      by_cases e : b = Bg
      · exact ⟨_, e ▸ hB⟩
      · obtain ⟨x, hx⟩ := h.live b m
        exact ⟨x, kp b x e hx⟩ }
/-- a row is another list -/
theorem LqAt.row_new (h : LqAt H U Qg Bg ls qs bg) {k : Int} {z : Addr} {e' : List Int} (h0 : 0 ≤ k) (h1 : k ≤ 10) (hz : H3 z = some (.lst (e'.map V.int))) (hQ : H3 Qg = some (.lst ((ls.map V.ref).set k.toNat (.ref z)))) (kp : ∀ b x, b ≠ Qg → H b = some x → H3 b = some x) (nz : H z = none) : LqAt H3 (fun b => U b ∨ b = z) Qg Bg (ls.set k.toNat z) (upF qs k e') bg := by
  have inz : ∀ {b}, U b → b ≠ z := fun m e => by obtain ⟨x, hx⟩ := h.live _ m; rw [e, nz] at hx; cases hx
  have zl : z ∉ ls := fun m => inz (h.ul z m) rfl
  have ms : ∀ l, l ∈ ls.set k.toNat z → l = z ∨ l ∈ ls := fun l m => (List.mem_or_eq_of_mem_set m).symm
  exact {
    hQ := by rw [hQ, List.map_set], hB := kp _ _ h.QB.symm h.hB, len := by rw [List.length_set]; exact h.len
    row := fun i l a => by
      rw [List.getElem?_set] at a
      by_cases e : k.toNat = i
      · rw [if_pos e, if_pos (by rw [h.len]; omega)] at a
        cases a
        rw [show (i : Int) = k by omega, upF_at]
        exact hz
      · rw [if_neg e] at a
        rw [upF_ne (by omega)]
        exact kp _ _ (fun w => h.nQ (by rw [← w]; exact List.mem_of_getElem? a)) (h.row i l a)
    nd := fun i j l a b => by
      rw [List.getElem?_set] at a b
      have kl : k.toNat < ls.length := by rw [h.len]; omega
      by_cases e1 : k.toNat = i
      · rw [if_pos e1, if_pos (by omega)] at a
        cases a
        by_cases e2 : k.toNat = j
        · omega
        · rw [if_neg e2] at b
          exact absurd (List.mem_of_getElem? b) zl
      · rw [if_neg e1] at a
        by_cases e2 : k.toNat = j
        · rw [if_pos e2, if_pos (by omega)] at b
          cases b
          exact absurd (List.mem_of_getElem? a) zl
        · rw [if_neg e2] at b
          exact h.nd i j l a b
    QB := h.QB
    nQ := fun m => (ms _ m).elim (inz h.uQ) h.nQ, nB := fun m => (ms _ m).elim (inz h.uB) h.nB
    uQ := .inl h.uQ, uB := .inl h.uB
    ul := fun l m => (ms l m).elim .inr fun m => .inl (h.ul l m)
    live := fun b m => by
      rcases m with m | rfl
      · by_cases e : b = Qg
        · exact ⟨_, e ▸ hQ⟩
        · obtain ⟨x, hx⟩ := h.live b m
          exact ⟨x, kp b x e hx⟩
      · exact ⟨_, hz⟩ }
/-- a row grows -/
theorem LqAt.row_put (h : LqAt H U Qg Bg ls qs bg) {k : Int} {l : Addr} {e' : List Int} (h0 : 0 ≤ k) (h1 : k ≤ 10) (hl : ls[k.toNat]? = some l) (hz : H3 l = some (.lst (e'.map V.int))) (kp : ∀ b x, b ≠ l → H b = some x → H3 b = some x) : LqAt H3 U Qg Bg ls (upF qs k e') bg := by
  have ml := List.mem_of_getElem? hl
  exact { h with
    hQ := kp _ _ (fun w => h.nQ (by rw [w]; exact ml)) h.hQ, hB := kp _ _ (fun w => h.nB (by rw [w]; exact ml)) h.hB
    row := fun i l' a => by
      by_cases e : k.toNat = i
      · subst e
        rw [hl] at a
        cases a
        rw [show ((k.toNat : Nat) : Int) = k by omega, upF_at]
        exact hz
      · rw [upF_ne (by omega)]
        refine kp _ _ (fun w => ?_) (h.row i l' a)
        exact e (h.nd _ _ l hl (by rw [← w]; exact a))
    live := fun b m => by
      by_cases e : b = l
      · exact ⟨_, e ▸ hz⟩
      · obtain ⟨x, hx⟩ := h.live b m
        exact ⟨x, kp b x e hx⟩ }
end
def Rdy (qs : Int → List Int) (bg : Int → Bool) (ys : List Int) : Prop := (∀ y ∈ ys, 1 ≤ y ∧ y ≤ 10 ∧ qs y ≠ [] ∧ bg y = false) ∧ ∀ k, 1 ≤ k → k ≤ 10 → qs k ≠ [] → bg k = false → k ∈ ys
section
variable {P : Program} {w : World} {K : PySem.W.Frag} {mg : Str → Option Value} {base : Heap}
def sp__law_ready : Sp := fun vs H Q _ => ∃ (Qg Bg : Addr) (U : Addr → Prop) (ls : List Addr) (qs : Int → List Int) (bg : Int → Bool), vs = [.ref Qg, .ref Bg] ∧ LqAt H U Qg Bg ls qs bg ∧
  ∀ H' D ys, Same H H' → H D = none → H' D = some (.lst (ys.map V.int)) → Rdy qs bg ys → ys.length ≤ 10 → Q (.ref D) H'
theorem ok__law_ready (T : Top K mg) : FnOk P w K mg base CX0 1 T.a__law_ready T.d__law_ready ["queues", "begun"]  sp__law_ready := by
  refine T.F__law_ready.ok sc__law_ready (fun vs H Q E h => ?_) (fun cdv A outer s H vs Q E hr h => ?_)
  · obtain ⟨_, _, _, _, _, _, rfl, _⟩ := h
    rfl
  · obtain ⟨Qg, Bg, U, ls, qs, bg, rfl, h, q⟩ := h
    refine ⟨_, (pss_cons (ps_set (i := 2) sc__law_ready.nd rfl (by first | exact Or.inl rfl | exact Or.inr rfl) (pe_lst pa_nil))
  (pss_cons (ps_for PassesOwn.never rfl (pi_range2 (by rfl) T.m_range (pa_cons pe_int (pa_cons pe_int pa_nil))) (pg_name (i := 3) sc__law_ready.nd rfl (by first | exact Or.inl rfl | exact Or.inr rfl))
  (pss_one (ps_if (pw_and (pt_cmpR op_gt (pe_callB call_len_seq (by rfl) T.m_len PySem.boot_len (pa_cons (pe_ix ix_list (pv 0) (pv 3) (fun _ _ => rfl)) pa_nil)) pe_int (nomark _)) (pw_and1 (pt_not (pt_val (pe_ix ix_list (pv 1) (pv 3) (fun _ _ => rfl)))))).pt
  (pss_one (ps_expr (pe_bm PySem.F.plainAttrs_list PySem.F.slot_list_append PySem.F.type_list_append mt_append (pv 2) (pa_cons (pv 3) pa_nil))))
  pss_nil)))
  (pss_one (ps_ret (pv 2))))), ?_⟩
    rw [show ∀ a0 a1 : V, L2.start ["queues", "begun", "found", "number"] [a0, a1] = [some a0, some a1, none, none] from fun _ _ => rfl]
    walk_at "my rn"
    intro D H1 nD s1 hD
    walk_at "my rn"
    refine ⟨by decide, for_it walk_range (fun i σ H' => ∃ (ys : List Int) (y : Option V), σ = [some (.ref Qg), some (.ref Bg), some (.ref D), y] ∧ Rd.But D H H' ∧ H' D = some (.lst (ys.map V.int)) ∧ ys.length ≤ i ∧ (∀ y ∈ ys, 1 ≤ y ∧ y ≤ 10 ∧ qs y ≠ [] ∧ bg y = false) ∧ ∀ k, 1 ≤ k → k < 1 + (i : Int) → qs k ≠ [] → bg k = false → k ∈ ys)
      ⟨[], none, rfl, Rd.But.same s1, hD, Nat.le_refl _, by simp, fun k a b => by omega⟩ (fun _ _ _ _ _ => trivial) ?_ ?_⟩
    · rintro i x σ H2 H2' hi ⟨ys, y, rfl, b, hD2, hl, h1, h2⟩ ⟨rfl, rfl⟩
      have hi2 : i < 10 := hi
      have sm := b.to nD
      obtain ⟨l, hl1, hl2, hl3⟩ := h.at_ (k := 1 + (i : Int)) (by omega) (by omega)
      have hQ2 := sm _ _ h.hQ
      have hB2 := sm _ _ h.hB
      have hr2 := sm _ _ hl3
      walk_at "my rn"
      refine Rd.ixL hQ2 hl2 ?_
      walk_at "my rn"
      rw [List.length_map]
      have nx : ∀ (ys' : List Int), (∀ k ∈ ys, k ∈ ys') → ((qs (1 + (i : Int)) ≠ [] → bg (1 + (i : Int)) = false → (1 + (i : Int)) ∈ ys')) → ∀ k, 1 ≤ k → k < 1 + ((i + 1 : Nat) : Int) → qs k ≠ [] → bg k = false → k ∈ ys' := fun ys' a b k k1 k2 k3 k4 => by
        by_cases e : k = 1 + (i : Int)
        · rw [e] at k3 k4 ⊢; exact b k3 k4
        · exact a k (h2 k k1 (by omega) k3 k4)
      refine Rd.ifD (fun c1 => ?_) (fun c1 => ?_)
      · walk_at "my rn"
        refine Rd.ixL hB2 (bgL_at (by omega) (by omega)) ?_
        walk_at "my rn"
        refine Rd.ifNB (fun c2 => ?_) (fun c2 => ?_)
        · walk_at "my rn"
          refine Rd.app hD2 (Rd.szl (by rw [List.length_map]; omega)) ?_
          refine ⟨ys ++ [1 + (i : Int)], _, rfl, b.trans Rd.But.at_, by rw [upd_same, List.map_append]; rfl, by simp; omega, fun y m => ?_, nx _ (fun k m => List.mem_append_left _ m) (fun _ _ => by simp)⟩
          rcases List.mem_append.mp m with m | m
          · exact h1 y m
          · rw [List.mem_singleton.mp m]
            exact ⟨by omega, by omega, fun z => by rw [z] at c1; simp at c1, c2⟩
        · walk_at "my rn"
          exact ⟨ys, _, rfl, b, hD2, by omega, h1, nx ys (fun _ m => m) fun _ z => by rw [c2] at z; cases z⟩
      · walk_at "my rn"
        exact ⟨ys, _, rfl, b, hD2, by omega, h1, nx ys (fun _ m => m) fun z _ => absurd (List.length_eq_zero_iff.mp (by omega)) z⟩
    · rintro σ H2 ⟨ys, y, rfl, b, hD2, hl, h1, h2⟩
      walk_at "my rn"
      exact q _ D ys (b.to nD) nD hD2 ⟨h1, fun k a b c d => h2 k a (by show k < 1 + (((11 - 1 : Int).toNat : Nat) : Int); omega) c d⟩ hl
def sp__law_same (C : Addr) : Sp := fun vs H Q _ => ∃ (o Qg Bg : Addr) (S U : Addr → Prop) (ls : List Addr) (qs : Int → List Int) (bg : Int → Bool) (n : Nat), vs = [.ref o, .ref Qg, .ref Bg] ∧ Wt C H S o qs bg n ∧ n ≤ 1000 ∧ LqAt H U Qg Bg ls qs bg ∧ ∀ H', Same H H' → Q (.bl true) H'
theorem ok__law_same (T : Top K mg) : FnOk P w K mg base CX0 2 T.a__law_same T.d__law_same ["waiting", "queues", "begun"]  (sp__law_same T.C_Waiting) := by
  refine T.F__law_same.ok sc__law_same (fun vs H Q E h => ?_) (fun cdv A outer s H vs Q E hr h => ?_)
  · obtain ⟨_, _, _, _, _, _, _, _, _, rfl, _⟩ := h
    rfl
  · obtain ⟨o, Qg, Bg, S, U, ls, qs, bg, n, rfl, hw, n1, h, q⟩ := h
    obtain ⟨dx, Qa, Ba, q0, b0, h0⟩ := id hw
    have h00 := h0.ob
    have fh : (wf Qa Ba).lookup ("highest" : Str) = none := by with_unfolding_all rfl
    have ft : (wf Qa Ba).lookup ("times" : Str) = none := by with_unfolding_all rfl
    refine ⟨_, (pss_cons (ps_set (i := 3) sc__law_same.nd rfl (by first | exact Or.inl rfl | exact Or.inr rfl) (pe_call (ok__law_ready T) (hr.mono (by decide)) (by rfl) T.g__law_ready T.F__law_ready.kp T.b__law_ready .nil pass0 (pa_cons (pv 1) (pa_cons (pv 2) pa_nil))))
  (pss_cons (ps_set (i := 4) sc__law_same.nd rfl (by first | exact Or.inl rfl | exact Or.inr rfl) (pe_meth0 (pv 0) T.cl_Waiting T.m_Waiting_highest (ok_Waiting_highest T) (hr.mono (by decide)) T.b_Waiting_highest .nil pass0))
  (pss_cons (ps_if (pw_or (pt_val (pe_callB call_isi (by rfl) T.m_isinstance (by decide +kernel) (pa_cons (pv 4) (pa_cons (pe_ty (T := "bool") (by rfl) T.m_bool (by decide +kernel)) pa_nil)))) (pw_or1 (pt_cmpR op_ne (pv 4) (pe_callB (cr_max rfl) (by rfl) T.m_max (by decide +kernel) (pa_cons (pe_op op_cat (pe_lst (pa_cons pe_int pa_nil)) (pv 3)) pa_nil)) (nomark _)))).pt
  (pss_one (ps_ret pe_bl))
  pss_nil)
  (pss_cons (ps_for PassesOwn.never rfl (pi_range2 (by rfl) T.m_range (pa_cons pe_int (pa_cons pe_int pa_nil))) (pg_name (i := 5) sc__law_same.nd rfl (by first | exact Or.inl rfl | exact Or.inr rfl))
  (pss_cons (ps_set (i := 6) sc__law_same.nd rfl (by first | exact Or.inl rfl | exact Or.inr rfl) (pe_meth (pv 0) T.cl_Waiting T.m_Waiting_times (ok_Waiting_times T) (hr.mono (by decide)) T.b_Waiting_times .nil pass0 (pa_cons (pv 5) pa_nil)))
  (pss_cons (ps_if (pw_or (pt_not (pt_val (pe_callB call_isi (by rfl) T.m_isinstance (by decide +kernel) (pa_cons (pv 6) (pa_cons (pe_ty (T := "list") (by rfl) T.m_list (by decide +kernel)) pa_nil))))) (pw_or1 (pt_cmpR (op_neD hr.units) (pv 6) (pe_ix ix_list (pv 1) (pv 5) (fun _ _ => rfl)) (nomark _)))).pt
  (pss_one (ps_ret pe_bl))
  pss_nil)
  (pss_one (ps_expr (pe_bm PySem.F.plainAttrs_list PySem.F.slot_list_append PySem.F.type_list_append mt_append (pv 6) (pa_cons pe_int pa_nil)))))))
  (pss_one (ps_ret pe_bl)))))), ?_⟩
    rw [show ∀ a0 a1 a2 : V, L2.start ["waiting", "queues", "begun", "found", "told", "number", "times"] [a0, a1, a2] = [some a0, some a1, some a2, none, none, none, none] from fun _ _ _ => rfl]
    walk_at "my rn"
    refine ⟨Qg, Bg, U, ls, qs, bg, rfl, h, fun H1 D ys s1 nD hD hy ly => ?_⟩
    have h01 := s1 _ _ h00
    walk_at "my rn"
    refine ⟨o, S, qs, bg, n, rfl, hw.keep (fun b x _ e => s1 b x e) (Nat.le_refl _), n1, fun m H2 s2 hm => ?_⟩
    have hD2 := s2 _ _ hD
    walk_at "my rn"
    intro p1 H3 np1 s3 hp1
    have hD3 := s3 _ _ hD2
    walk_at "my rn"
    refine Rd.cat hp1 hD3 (by rw [List.length_map]; simp; omega) fun Z H4 nZ s4 hZ => ?_
    have hZ2 : H4 Z = some (.lst (((0 : Int) :: ys).map V.int)) := hZ
    refine Rd.nil ?_
    refine Rd.maxL hZ2 (by simp) fun m' m1 m2 => ?_
    have em : m = m' := by
      rcases hm with ⟨a, b, c, d, e⟩ | ⟨rfl, e⟩
      · have g1 := m2 m (List.mem_cons_of_mem _ (hy.2 m a b c d))
        rcases List.mem_cons.mp m1 with rfl | mm
        · omega
        · obtain ⟨a', b', c', d'⟩ := hy.1 m' mm
          have := e m' a' b' c' d'
          omega
      · rcases List.mem_cons.mp m1 with rfl | mm
        · rfl
        · obtain ⟨a', b', c', d'⟩ := hy.1 m' mm
          exact (e m' a' b' c' d').elim
    rw [em]
    walk_at "my rn"
    rw [decide_eq_true rfl]
    walk_at "my rn"
    have s14 := s1.trans (s2.trans (s3.trans s4))
    refine ⟨by decide, for_it walk_range (fun i σ H' => Same H H' ∧ ∃ y6 y7, σ = [some (.ref o), some (.ref Qg), some (.ref Bg), some (.ref D), some (.int m'), y6, y7]) ⟨s14, none, none, rfl⟩ (fun _ _ _ _ _ => trivial) ?_ ?_⟩
    · rintro i x σ H5 H5' hi ⟨s5, y6, y7, rfl⟩ ⟨rfl, rfl⟩
      have hi2 : i < 10 := hi
      have h05 := s5 _ _ h00
      obtain ⟨l, hl1, hl2, hl3⟩ := h.at_ (k := 1 + (i : Int)) (by omega) (by omega)
      have hQ5 := s5 _ _ h.hQ
      have hr5 := s5 _ _ hl3
      walk_at "my rn"
      refine ⟨o, _, S, qs, bg, n, rfl, hw.keep (fun b x _ e => s5 b x e) (Nat.le_refl _), fun H6 F s6 nF hF => ?_⟩
      have hQ6 := s6 _ _ hQ5
      have hr6 := s6 _ _ hr5
      walk_at "my rn"
      refine Rd.ixL hQ6 hl2 ?_
      refine Rd.neD (dp_ints (SqL.of hF)) (dp_ints (SqL.of hr6)) (ints_shaped _) (ints_shaped _) ?_
      rw [eqv_ints, decide_eq_true rfl]
      walk_at "my rn"
      refine Rd.app hF (Rd.szl (by rw [List.length_map]; have := h0.bn (1 + (i : Int)); omega)) ?_
      refine ⟨fun b x e => ?_, _, _, rfl⟩
      rw [upd_ne (fun z => by have := s5 _ _ e; rw [z, nF] at this; cases this)]
      exact s6 _ _ (s5 _ _ e)
    · rintro σ H5 ⟨s5, y6, y7, rfl⟩
      walk_at "my rn"
      exact q _ s5
end

end Mine

set_option Elab.async false
set_option linter.all false
set_option maxRecDepth 100000
set_option maxHeartbeats 1000000

namespace Mine
open PySem PySem.Spec PyProof.Rows L2
local macro_rules | `(tactic| walk_at "my rn") => `(tactic| (repeat (first | with_reducible refine Rd.fld ?_ | with_reducible refine Rd.sfld ?_ | with_reducible refine Rd.meth ?_ | with_reducible refine Rd.make ?_ | with_reducible refine Rd.izip ?_ | with_reducible refine Rd.ckw ?_ | with_reducible refine Rd.dsetd ?_ | with_reducible refine Rd.ddel ?_ | with_reducible refine Rd.dnew ?_ | with_reducible refine Rd.din ?_ | with_reducible refine Rd.dnot ?_ | with_reducible refine Rd.dget ?_ | with_reducible refine Rd.dget2 ?_ | with_reducible refine Rd.dput ?_ | with_reducible refine Rd.cbDictOf ?_ | with_reducible refine Rd.iitems ?_ | with_reducible refine Rd.ikeys ?_ | with_reducible refine Rd.dc ?_ | with_reducible refine Rd.nwD ?_ | with_reducible refine Rd.tupN ?_ | with_reducible refine Rd.lstN ?_ | with_reducible refine Rd.cbListOf ?_ | with_reducible refine Rd.cbListOfR ?_ | with_reducible refine Rd.catI ?_ | with_reducible refine Rd.slN ?_ | with_reducible refine Rd.cbSrtI ?_ | with_reducible refine Rd.seq ?_ | with_reducible refine Rd.next ?_ | with_reducible refine Rd.brk ?_ | with_reducible refine Rd.cont ?_ | with_reducible refine Rd.asg ?_ | with_reducible refine Rd.ret ?_ | with_reducible refine Rd.retN ?_ | with_reducible refine Rd.drop ?_ | with_reducible refine Rd.ifs ?_ | with_reducible refine Rd.ife ?_ | with_reducible refine Rd.test ?_ | with_reducible refine Rd.tb_ ?_ | with_reducible refine Rd.bl ?_ | with_reducible refine Rd.bl2 ?_ | with_reducible refine Rd.and_ ?_ | with_reducible refine Rd.or_ ?_ | with_reducible refine Rd.not_ ?_ | with_reducible refine Rd.andV ?_ | with_reducible refine Rd.orV ?_ | with_reducible refine Rd.notV ?_ | with_reducible refine Rd.op ?_ | with_reducible refine Rd.un ?_ | with_reducible refine Rd.I0 ?_ | with_reducible refine Rd.U ?_ | with_reducible refine Rd.ip ?_ | with_reducible refine Rd.c_ ?_ | with_reducible refine Rd.nil ?_ | with_reducible refine Rd.cons ?_ | with_reducible refine Rd.call ?_ | with_reducible refine Rd.cb ?_ | with_reducible refine Rd.bm ?_ | with_reducible refine Rd.bm0 ?_ | with_reducible refine Rd.nopart ?_ | with_reducible refine Rd.part ?_ | with_reducible refine Rd.int1 ?_ | with_reducible refine Rd.ints1 ?_ | with_reducible refine Rd.ints2 ?_ | with_reducible refine Rd.gcons ?_ | with_reducible refine Rd.gnil ?_ | with_reducible refine Rd.sub ?_ | with_reducible refine Rd.isN ?_ | with_reducible refine Rd.chain ?_ | with_reducible refine Rd.rf ?_ | with_reducible refine Rd.tyS ?_ | with_reducible refine Rd.intI ?_ | with_reducible refine Rd.lc ?_ | with_reducible refine Rd.for_ ?_ | with_reducible refine Rd.ilist ?_ | with_reducible refine Rd.itup ?_ | with_reducible refine Rd.irng1 ?_ | with_reducible refine Rd.irng2 ?_ | with_reducible refine Rd.ienum ?_ | with_reducible refine Rd.istr ?_ | with_reducible refine Rd.refA ?_ | with_reducible refine Rd.strA ?_ | with_reducible refine Rd.yes ?_ | with_reducible refine Rd.ifT ?_ | with_reducible refine Rd.ifF ?_ | with_reducible refine Rd.ifnT ?_ | with_reducible refine Rd.ifnF ?_ | with_reducible refine Rd.isi_ii ?_ | with_reducible refine Rd.isi_ib ?_ | with_reducible refine Rd.isi_is ?_ | with_reducible refine Rd.isi_il ?_ | with_reducible refine Rd.isi_it ?_ | with_reducible refine Rd.isi_id ?_ | with_reducible refine Rd.isi_bi ?_ | with_reducible refine Rd.isi_bb ?_ | with_reducible refine Rd.isi_bs ?_ | with_reducible refine Rd.isi_bl ?_ | with_reducible refine Rd.isi_bt ?_ | with_reducible refine Rd.isi_bd ?_ | with_reducible refine Rd.isi_si ?_ | with_reducible refine Rd.isi_sb ?_ | with_reducible refine Rd.isi_ss ?_ | with_reducible refine Rd.isi_sl ?_ | with_reducible refine Rd.isi_st ?_ | with_reducible refine Rd.isi_sd ?_ | with_reducible refine Rd.isi_ni ?_ | with_reducible refine Rd.isi_nb ?_ | with_reducible refine Rd.isi_ns ?_ | with_reducible refine Rd.isi_nl ?_ | with_reducible refine Rd.isi_nt ?_ | with_reducible refine Rd.isi_nd ?_ | with_reducible refine Rd.sl ?_ | with_reducible refine Rd.v0 ?_ | with_reducible refine Rd.v1 ?_ | with_reducible refine Rd.v2 ?_ | with_reducible refine Rd.v3 ?_ | with_reducible refine Rd.v4 ?_ | with_reducible refine Rd.v5 ?_ | with_reducible refine Rd.v6 ?_ | with_reducible refine Rd.v7 ?_ | with_reducible refine Rd.v8 ?_ | with_reducible refine Rd.v9 ?_ | with_reducible refine Rd.v10 ?_ | with_reducible refine Rd.v11 ?_ | with_reducible refine Rd.v12 ?_ | with_reducible refine Rd.v13 ?_ | with_reducible refine Rd.v14 ?_ | with_reducible refine Rd.v15 ?_ | with_reducible refine Rd.n0 ?_ | with_reducible refine Rd.n1 ?_ | with_reducible refine Rd.n2 ?_ | with_reducible refine Rd.n3 ?_ | with_reducible refine Rd.n4 ?_ | with_reducible refine Rd.n5 ?_ | with_reducible refine Rd.n6 ?_ | with_reducible refine Rd.n7 ?_ | with_reducible refine Rd.n8 ?_ | with_reducible refine Rd.n9 ?_ | with_reducible refine Rd.n10 ?_ | with_reducible refine Rd.n11 ?_ | with_reducible refine Rd.n12 ?_ | with_reducible refine Rd.n13 ?_ | with_reducible refine Rd.n14 ?_ | with_reducible refine Rd.n15 ?_ | with_reducible refine Rd.g0 ?_ | with_reducible refine Rd.g1 ?_ | with_reducible refine Rd.g2 ?_ | with_reducible refine Rd.g3 ?_ | with_reducible refine Rd.g4 ?_ | with_reducible refine Rd.g5 ?_ | with_reducible refine Rd.g6 ?_ | with_reducible refine Rd.g7 ?_ | with_reducible refine Rd.g8 ?_ | with_reducible refine Rd.g9 ?_ | with_reducible refine Rd.g10 ?_ | with_reducible refine Rd.g11 ?_ | with_reducible refine Rd.g12 ?_ | with_reducible refine Rd.g13 ?_ | with_reducible refine Rd.g14 ?_ | with_reducible refine Rd.g15 ?_ | ((with_reducible apply Rd.fldI); (first | assumption | exact upd_same); assumption; assumption; (first | assumption | with_unfolding_all rfl)) | ((with_reducible apply Rd.methI); (first | assumption | exact upd_same); (first | assumption | with_unfolding_all rfl)) | ((with_reducible apply Rd.sfldI); (first | assumption | exact upd_same); assumption; assumption; exact Nat.le_of_ble_eq_true rfl) | ((with_reducible apply Rd.maxL); assumption) | ((with_reducible apply Rd.anyL); assumption) | ((with_reducible apply Rd.sumL); assumption) | ((with_reducible refine Rd.izI (by assumption) (by assumption) ?_)) | ((with_reducible refine Rd.eq ?_ ?_); exact rfl) | ((with_reducible refine Rd.ne ?_ ?_); exact rfl) | ((with_reducible refine Rd.szA ?_ ?_); exact Nat.le_of_ble_eq_true rfl) | ((with_reducible refine Rd.I ?_ ?_); first | assumption | decide | exact Or.inr (by decide +kernel) | exact Or.inl (by decide +kernel) | exact ⟨by decide, by decide⟩ | exact ⟨by decide, by decide, by decide⟩ | omega) | ((with_reducible apply Rd.tyL); first | assumption | exact upd_same) | ((with_reducible apply Rd.tyLq); assumption) | ((with_reducible apply Rd.ixL); (first | assumption | exact upd_same); exact rfl) | ((with_reducible apply Rd.ixT); (first | assumption | exact upd_same); exact rfl) | ((with_reducible apply Rd.ixLq); assumption; exact rfl) | ((with_reducible apply Rd.ixTq); assumption; exact rfl) | ((with_reducible apply Rd.gtup); (first | assumption | exact upd_same); exact rfl) | ((with_reducible apply Rd.gtupq); assumption; exact rfl) | ((with_reducible apply Rd.sqAq); assumption) | ((with_reducible apply Rd.stAq); assumption) | ((with_reducible apply Rd.enAq); assumption) | ((with_reducible apply Rd.lenLq); assumption) | ((with_reducible apply Rd.lenTq); assumption) | ((with_reducible apply Rd.sqA); first | assumption | exact upd_same) | ((with_reducible apply Rd.stA); first | assumption | exact upd_same) | ((with_reducible apply Rd.enA); first | assumption | exact upd_same) | ((with_reducible apply Rd.lenL); first | assumption | exact upd_same) | ((with_reducible apply Rd.lenT); first | assumption | exact upd_same) | ((with_reducible refine Rd.nwT ?_ ?_); exact Nat.le_of_ble_eq_true rfl) | ((with_reducible refine Rd.nwL ?_ ?_); exact Nat.le_of_ble_eq_true rfl) | ((with_reducible apply Rd.isd); assumption) | ((with_reducible apply Rd.dictOf); assumption) | ((with_reducible refine Rd.isi_dd (by assumption) ?_)) | ((with_reducible apply Rd.itA); first | assumption | exact upd_same) | ((with_reducible apply Rd.ikA); first | assumption | exact upd_same) | ((with_reducible apply Rd.listOf); assumption) | ((with_reducible apply Rd.listOfq); assumption) | ((with_reducible apply Rd.slo); assumption) | ((with_reducible apply Rd.slq); assumption) | ((with_reducible apply Rd.srtI); assumption) | ((with_reducible apply Rd.srtIo); assumption) | ((with_reducible refine Rd.isi_li (by assumption) ?_)) | ((with_reducible refine Rd.isi_lb (by assumption) ?_)) | ((with_reducible refine Rd.isi_ls (by assumption) ?_)) | ((with_reducible refine Rd.isi_ll (by assumption) ?_)) | ((with_reducible refine Rd.isi_lt (by assumption) ?_)) | ((with_reducible refine Rd.isi_ld (by assumption) ?_)) | ((with_reducible refine Rd.isi_ti (by assumption) ?_)) | ((with_reducible refine Rd.isi_tb (by assumption) ?_)) | ((with_reducible refine Rd.isi_ts (by assumption) ?_)) | ((with_reducible refine Rd.isi_tl (by assumption) ?_)) | ((with_reducible refine Rd.isi_tt (by assumption) ?_)) | ((with_reducible refine Rd.isi_td (by assumption) ?_)))))
theorem ix_nn {n : Nat} {k : Int} (h0 : 0 ≤ k) (h1 : k < (n : Int)) : ixN n k = some k.toNat := by
  unfold ixN
  rw [if_pos h0, if_pos h1]
structure LW (C : Addr) (H : Hp) (p c o : Addr) (S U : Addr → Prop) (Qg Bg : Addr) (ls : List Addr) (qs : Int → List Int) (bg : Int → Bool) (qs2 : Int → List Int) (bg2 : Int → Bool) (n : Nat) : Prop where
  wt : Wt C H S o qs bg n
  lq : LqAt H U Qg Bg ls qs2 bg2
  st : StOk H p c
  us : ∀ b, U b → ¬ S b
  sp : ¬ S p
  sc : ¬ S c
  up : ¬ U p
  uc : ¬ U c
section
variable {C p c o Qg Bg : Addr} {H H' : Hp} {S U : Addr → Prop} {ls : List Addr} {qs qs2 : Int → List Int} {bg bg2 : Int → Bool} {n : Nat}
theorem LW.draw (h : LW C H p c o S U Qg Bg ls qs bg qs2 bg2 n) (st : StOk H' p c) (k : Keep p H H') : LW C H' p c o S U Qg Bg ls qs bg qs2 bg2 n :=
  { h with st := st, wt := h.wt.keep (fun b x m e => k b x (fun z => h.sp (z ▸ m)) e) (Nat.le_refl _), lq := h.lq.keep fun b x m e => k b x (fun z => h.up (z ▸ m)) e }
theorem LW.same (h : LW C H p c o S U Qg Bg ls qs bg qs2 bg2 n) (s : Same H H') : LW C H' p c o S U Qg Bg ls qs bg qs2 bg2 n :=
  { h with st := h.st.same s, wt := h.wt.keep (fun b x _ e => s b x e) (Nat.le_refl _), lq := h.lq.keep fun b x _ e => s b x e }
theorem LW.le (h : LW C H p c o S U Qg Bg ls qs bg qs2 bg2 n) {m : Nat} (l : n ≤ m) : LW C H p c o S U Qg Bg ls qs bg qs2 bg2 m := { h with wt := h.wt.keep (fun _ _ _ e => e) l }
theorem LW.act {S' : Addr → Prop} {qs' : Int → List Int} {bg' : Int → Bool} {n' : Nat} (h : LW C H p c o S U Qg Bg ls qs bg qs2 bg2 n) (wt : Wt C H' S' o qs' bg' n') (k : Kp S H H') (g : Gr S S' H) : LW C H' p c o S' U Qg Bg ls qs' bg' qs2 bg2 n' := by
  obtain ⟨ms, kk, v, sd, a, b, d, r⟩ := h.st
  have off : ∀ b x, H b = some x → ¬ S b → ¬ S' b := fun b x e ns m => (g b m).elim ns fun z => by rw [z] at e; cases e
  exact { wt := wt, lq := h.lq.keep fun b x m e => k b x (h.us b m) e, st := ⟨ms, kk, v, sd, a, k _ _ h.sp b, k _ _ h.sc d, r⟩
          us := fun b m => let ⟨x, e⟩ := h.lq.live b m; off b x e (h.us b m), sp := off _ _ b h.sp, sc := off _ _ d h.sc, up := h.up, uc := h.uc }
theorem LW.job {U' : Addr → Prop} {ls' : List Addr} {qs' : Int → List Int} {bg' : Int → Bool} (h : LW C H p c o S U Qg Bg ls qs bg qs2 bg2 n) (lq : LqAt H' U' Qg Bg ls' qs' bg') (k : ∀ b x, ¬ U b → H b = some x → H' b = some x) (g : ∀ b, U' b → U b ∨ H b = none) : LW C H' p c o S U' Qg Bg ls' qs bg qs' bg' n := by
  obtain ⟨ms, kk, v, sd, a, b, d, r⟩ := h.st
  have off : ∀ b x, H b = some x → ¬ U b → ¬ U' b := fun b x e ns m => (g b m).elim ns fun z => by rw [z] at e; cases e
  have liveS : ∀ b, S b → ∃ x, H b = some x := fun b m => let ⟨_, _, _, _, _, h⟩ := h.wt; h.live b m
  exact { wt := h.wt.keep (fun b x m e => k b x (fun z => h.us b z m) e) (Nat.le_refl _), lq := lq, st := ⟨ms, kk, v, sd, a, k _ _ h.up b, k _ _ h.uc d, r⟩
          us := fun b m m2 => (g b m).elim (fun z => h.us b z m2) fun z => by obtain ⟨x, e⟩ := liveS b m2; rw [z] at e; cases e
          sp := h.sp, sc := h.sc, up := off _ _ b h.up, uc := off _ _ d h.uc }
end
theorem inT {K : PySem.W.Frag} {H : Hp} {Q : VK} {p : Addr} {ns : List Int} {n : Int} (h : H p = some (.tup (ns.map V.int))) (q : Q (.bl (decide (n ∈ ns))) H) : rIn K false (.int n) (.ref p) H Q :=
  ⟨p, _, rfl, .inr (SqT.of h), rfl, Rd.flat_ints _, by rw [Rd.inV_ints]; exact q⟩
section
variable {P : Program} {w : World} {K : PySem.W.Frag} {mg : Str → Option Value} {base : Heap}
def sp_law (K : PySem.W.Frag) : Sp := fun vs H Q _ => ∃ (a : Addr) (ns : List Int), vs = [.ref a] ∧ SqL K H a (ns.map V.int) ∧ ns.length ≤ 63 ∧ ∀ H', Q (.bl true) H'
theorem ok_law (T : Top K mg) : FnOk P w K mg base CX0 3 T.a_law T.d_law ["script"]  (sp_law K) := by
  refine T.F_law.ok sc_law (fun vs H Q E h => ?_) (fun cdv A outer s H vs Q E hr h => ?_)
  · obtain ⟨_, _, rfl, _⟩ := h
    rfl
  · obtain ⟨l, ns, rfl, hS, hlen, q⟩ := h
    refine ⟨_, (pss_cons (ps_set (i := 1) sc_law.nd rfl (by first | exact Or.inl rfl | exact Or.inr rfl) (pe_call (ok__law_start T) (hr.mono (by decide)) (by rfl) T.g__law_start T.F__law_start.kp T.b__law_start .nil pass0 (pa_cons (pv 0) pa_nil)))
  (pss_cons (ps_set (i := 2) sc_law.nd rfl (by first | exact Or.inl rfl | exact Or.inr rfl) (pe_make0 T.M_Waiting (ok_Waiting_init T) (hr.mono (by decide)) (by rfl) T.gc_Waiting T.b_Waiting_init .nil pass0))
  (pss_cons (ps_setLc (i := 3) (own := [("number", 4)]) (g := gName 4) (tt := tYes) rfl sc_law.nd rfl rfl (sw_true rfl rfl rfl (by decide +kernel)) (pi_range1 (by rfl) T.m_range (pa_cons pe_int pa_nil)) (blkOk_by (N := ["script", "state", "waiting", "queues", "number", "begun", "k", "turn", "found", "running", "time"]) (sc := defScope s_law) (by decide +kernel)) (fun _ _ _ _ _ => pg_name (i := 4) sc_law.nd rfl (Or.inl rfl)) (fun _ _ _ _ _ => pts_nil) (fun _ _ _ _ _ => (pe_lst pa_nil)))
  (pss_cons (ps_set (i := 5) sc_law.nd rfl (by first | exact Or.inl rfl | exact Or.inr rfl) (pe_lc (own := [("number", 4)]) (g := gName 4) (tt := tYes) rfl sc_law.nd (pi_range1 (by rfl) T.m_range (pa_cons pe_int pa_nil)) (blkOk_by (N := ["script", "state", "waiting", "queues", "number", "begun", "k", "turn", "found", "running", "time"]) (sc := defScope s_law) (by decide +kernel)) (fun _ _ _ _ _ => pg_name (i := 4) sc_law.nd rfl (Or.inl rfl)) (fun _ _ _ _ _ => pts_nil) (fun _ _ _ _ _ => pe_bl)))
  (pss_cons (ps_for PassesOwn.never rfl (pi_range1 (by rfl) T.m_range (pa_cons (pe_op op_add pe_int (pe_call (ok__law_draw T) (hr.mono (by decide)) (by rfl) T.g__law_draw T.F__law_draw.kp T.b__law_draw .nil pass0 (pa_cons (pv 1) (pa_cons pe_int pa_nil)))) pa_nil)) (pg_name (i := 6) sc_law.nd rfl (by first | exact Or.inl rfl | exact Or.inr rfl))
  (pss_cons (ps_set (i := 7) sc_law.nd rfl (by first | exact Or.inl rfl | exact Or.inr rfl) (pe_call (ok__law_draw T) (hr.mono (by decide)) (by rfl) T.g__law_draw T.F__law_draw.kp T.b__law_draw .nil pass0 (pa_cons (pv 1) (pa_cons pe_int pa_nil))))
  (pss_cons (ps_set (i := 8) sc_law.nd rfl (by first | exact Or.inl rfl | exact Or.inr rfl) (pe_call (ok__law_ready T) (hr.mono (by decide)) (by rfl) T.g__law_ready T.F__law_ready.kp T.b__law_ready .nil pass0 (pa_cons (pv 3) (pa_cons (pv 5) pa_nil))))
  (pss_cons (ps_setLc (i := 9) (own := [("number", 4)]) (g := gName 4) rfl sc_law.nd rfl rfl (sw_true rfl rfl rfl (by decide +kernel)) (pi_range2 (by rfl) T.m_range (pa_cons pe_int (pa_cons pe_int pa_nil))) (blkOk_by (N := ["script", "state", "waiting", "queues", "number", "begun", "k", "turn", "found", "running", "time"]) (sc := defScope s_law) (by decide +kernel)) (fun _ _ _ _ _ => pg_name (i := 4) sc_law.nd rfl (Or.inl rfl)) (fun _ _ _ _ _ => pts_one (pt_val (pe_ix (r := rIxL K) ix_list (pv 5) (pv 4) (fun _ _ => rfl)))) (fun _ _ _ _ _ => (pv 4)))
  (Evl.pss_cut (ps_if (pw_and (pt_cmpR op_in_seq (pv 7) (pe_tup (pa_cons pe_int (pa_cons pe_int pa_nil))) (by with_unfolding_all rfl)) (pw_and1 (pt_cmpR op_gt (pe_callB call_len_seq (by rfl) T.m_len PySem.boot_len (pa_cons (pv 8) pa_nil)) pe_int (nomark _)))).pt
  (pss_cons (ps_set (i := 4) sc_law.nd rfl (by first | exact Or.inl rfl | exact Or.inr rfl) (pe_ifExp (pt_cmpR op_eq (pv 7) pe_int (nomark _)) (pe_callB (cr_max rfl) (by rfl) T.m_max (by decide +kernel) (pa_cons (pv 8) pa_nil)) (pe_ix ix_list (pv 8) (pe_call (ok__law_draw T) (hr.mono (by decide)) (by rfl) T.g__law_draw T.F__law_draw.kp T.b__law_draw .nil pass0 (pa_cons (pv 1) (pa_cons (pe_callB call_len_seq (by rfl) T.m_len PySem.boot_len (pa_cons (pv 8) pa_nil)) pa_nil))) (fun _ _ => rfl))))
  (pss_cons (ps_if (pt_cmpR op_ne (pe_meth (pv 2) T.cl_Waiting T.m_Waiting_begin (ok_Waiting_begin T) (hr.mono (by decide)) T.b_Waiting_begin .nil pass0 (pa_cons (pv 4) pa_nil)) (pe_ix ix_list (pe_ix ix_list (pv 3) (pv 4) (fun _ _ => rfl)) pe_int (fun _ _ => rfl)) (nomark _))
  (pss_one (ps_ret pe_bl))
  pss_nil)
  (pss_cons (ps_asg (pe_slice sl_list (pe_ix ix_list (pv 3) (pv 4) (fun _ _ => rfl)) (po_some pe_int) po_none) (pg_sub (pv 3) (pv 4) set_list))
  (pss_one (ps_asg pe_bl (pg_sub (pv 5) (pv 4) set_list))))))
  (pss_one (ps_if (pw_and (pt_cmpR op_eq (pv 7) pe_int (nomark _)) (pw_and1 (pt_cmpR op_gt (pe_callB call_len_seq (by rfl) T.m_len PySem.boot_len (pa_cons (pv 9) pa_nil)) pe_int (nomark _)))).pt
  (pss_cons (ps_set (i := 4) sc_law.nd rfl (by first | exact Or.inl rfl | exact Or.inr rfl) (pe_ix ix_list (pv 9) (pe_call (ok__law_draw T) (hr.mono (by decide)) (by rfl) T.g__law_draw T.F__law_draw.kp T.b__law_draw .nil pass0 (pa_cons (pv 1) (pa_cons (pe_callB call_len_seq (by rfl) T.m_len PySem.boot_len (pa_cons (pv 9) pa_nil)) pa_nil))) (fun _ _ => rfl)))
  (pss_cons (ps_expr (pe_meth (pv 2) T.cl_Waiting T.m_Waiting_end (ok_Waiting_end T) (hr.mono (by decide)) T.b_Waiting_end .nil pass0 (pa_cons (pv 4) pa_nil)))
  (pss_one (ps_asg pe_bl (pg_sub (pv 5) (pv 4) set_list)))))
  (pss_cons (ps_set (i := 4) sc_law.nd rfl (by first | exact Or.inl rfl | exact Or.inr rfl) (pe_op op_add pe_int (pe_call (ok__law_draw T) (hr.mono (by decide)) (by rfl) T.g__law_draw T.F__law_draw.kp T.b__law_draw .nil pass0 (pa_cons (pv 1) (pa_cons pe_int pa_nil)))))
  (pss_cons (ps_set (i := 10) sc_law.nd rfl (by first | exact Or.inl rfl | exact Or.inr rfl) (pe_call (ok__law_draw T) (hr.mono (by decide)) (by rfl) T.g__law_draw T.F__law_draw.kp T.b__law_draw .nil pass0 (pa_cons (pv 1) (pa_cons pe_int pa_nil))))
  (pss_cons (ps_expr (pe_meth (pv 2) T.cl_Waiting T.m_Waiting_arrive (ok_Waiting_arrive T) (hr.mono (by decide)) T.b_Waiting_arrive .nil pass0 (pa_cons (pv 4) (pa_cons (pv 10) pa_nil))))
  (pss_one (ps_expr (pe_bm PySem.F.plainAttrs_list PySem.F.slot_list_append PySem.F.type_list_append mt_append (pe_ix ix_list (pv 3) (pv 4) (fun _ _ => rfl)) (pa_cons (pv 10) pa_nil))))))))))
  (pss_one (ps_if (pt_not (pt_val (pe_call (ok__law_same T) (hr.mono (by decide)) (by rfl) T.g__law_same T.F__law_same.kp T.b__law_same .nil pass0 (pa_cons (pv 2) (pa_cons (pv 3) (pa_cons (pv 5) pa_nil))))))
  (pss_one (ps_ret pe_bl))
  pss_nil)))))))
  (pss_one (ps_ret pe_bl))))))), ?_⟩
    rw [show ∀ a0 : V, L2.start ["script", "state", "waiting", "queues", "number", "begun", "k", "turn", "found", "running", "time"] [a0] = [some a0, none, none, none, none, none, none, none, none, none, none] from fun _ => rfl]
    walk_at "my rn"
    refine ⟨l, ns, rfl, hS, hlen, fun H0 p c s0 np nc st0 => ?_⟩
    walk_at "my rn"
    intro o dx nO ndx dxo
    obtain ⟨H1, e1⟩ : ∃ H1, H1 = upd (upd H0 dx (.own o)) o (.ins T.C_Waiting dx []) := ⟨_, rfl⟩
    rw [← e1]
    have s1 : Same H0 H1 := fun b x e => by
      rw [e1, upd_ne (fun z => by rw [z, nO] at e; cases e), upd_ne (fun z => by rw [z, ndx] at e; cases e)]
      exact e
    refine ⟨o, dx, rfl, by rw [e1]; exact upd_same, fun H2 S hs kS lS => ⟨rfl, ?_⟩⟩
    have s02 : Same H0 H2 := fun b x e => kS b x (fun z => by rw [z, nO] at e; cases e) (s1 _ _ e)
    have st2 := st0.same s02
    have frS : ∀ b, S b → H0 b = none := fun b m => by
      rcases lS b m with rfl | z
      · exact nO
      · cases e : H0 b with
        | none => rfl
        | some x => rw [s1 b x e] at z; cases z
    have nS : ∀ b x, H0 b = some x → ¬ S b := fun b x e m => by rw [frS b m] at e; cases e
    walk_at "my rn"
    refine ⟨by decide, by decide, ?_⟩
    intro Qg nQ
    refine lc_it walk_range (fun i H' => ∃ ls : List Addr, ls.length = i ∧ H' Qg = some (.lst (ls.map V.ref)) ∧ (∀ l ∈ ls, H' l = some (.lst []) ∧ H2 l = none ∧ l ≠ Qg) ∧ (∀ (i j : Nat) l, ls[i]? = some l → ls[j]? = some l → i = j) ∧ Rd.But Qg H2 H')
      ⟨[], rfl, upd_same, by simp, by simp, Rd.But.at_⟩ (fun _ _ _ _ => trivial) (fun i x H3 H3' hi ⟨ls, hl, hQ, hls, hnd, hb⟩ yy => ?_) (fun H3 ⟨ls, hl, hQ3, hls, hnd, hb⟩ => ?_)
    · obtain ⟨rfl, e⟩ := Rd.zr yy
      subst e
      have hi2 : i < 11 := hi
      simp only [List.map_cons, List.map_nil, L2.wipe, List.set_cons_succ, List.set_cons_zero]
      walk_at "my rn"
      refine ⟨rfl, ?_⟩
      walk_at "my rn"
      intro z H4 nz s4 hz
      have hQ4 := s4 _ _ hQ
      have zQ : z ≠ Qg := fun w => by rw [w, hQ] at nz; cases nz
      have zl : z ∉ ls := fun m => by rw [(hls z m).1] at nz; cases nz
      have nz2 : H2 z = none := hb.to nQ |>.free nz
      refine ⟨_, hQ4, Rd.szl (by rw [List.length_map]; omega), ls ++ [z], by simp [hl], by rw [upd_same, List.map_append]; rfl, fun l m => ?_, fun i' j' l a b => ?_, fun b x n e => by rw [upd_ne n]; exact s4 _ _ (hb b x n e)⟩
      · rcases List.mem_append.mp m with m | m
        · obtain ⟨a, b, c⟩ := hls l m
          exact ⟨by rw [upd_ne c]; exact s4 _ _ a, b, c⟩
        · rw [List.mem_singleton.mp m]
          exact ⟨by rw [upd_ne zQ]; exact hz, nz2, zQ⟩
      · have lt1 := (List.getElem?_eq_some_iff.mp a).1
        have lt2 := (List.getElem?_eq_some_iff.mp b).1
        simp at lt1 lt2
        by_cases c1 : i' < ls.length
        · rw [List.getElem?_append_left c1] at a
          by_cases c2 : j' < ls.length
          · rw [List.getElem?_append_left c2] at b
            exact hnd i' j' l a b
          · rw [List.getElem?_append_right (by omega), show j' - ls.length = 0 by omega] at b
            simp at b
            exact absurd (List.mem_of_getElem? a) (by rw [← b]; exact zl)
        · rw [List.getElem?_append_right (by omega), show i' - ls.length = 0 by omega] at a
          simp at a
          by_cases c2 : j' < ls.length
          · rw [List.getElem?_append_left c2] at b
            exact absurd (List.mem_of_getElem? b) (by rw [← a]; exact zl)
          · omega
    have s23 : Same H2 H3 := hb.to nQ
    walk_at "my rn"
    refine ⟨by decide, by decide, ?_⟩
    intro Bg nB
    refine Rd.lc_rel walk_range (fun i v _ => v = .bl false) nB (by decide) (fun _ _ _ _ h _ => h) (fun _ _ => trivial) (fun i x H4 H4' Kt hi b hDl y kt => ?_) (fun H4 ms lm hm s4 hB4 => ?_)
    · obtain ⟨rfl, e⟩ := Rd.zr y
      subst e
      simp only [List.map_cons, List.map_nil, L2.wipe, List.set_cons_succ, List.set_cons_zero]
      walk_at "my rn"
      refine ⟨rfl, ?_⟩
      walk_at "my rn"
      exact kt _ _ rfl (Same.refl _)
    have em : ms = bgL fun _ => false := by
      refine List.ext_getElem? fun i => ?_
      unfold bgL
      rw [List.getElem?_map]
      by_cases hi : i < 11
      · obtain ⟨v, hv⟩ : ∃ v, ms[i]? = some v := ⟨_, List.getElem?_eq_getElem (by rw [lm]; exact hi)⟩
        rw [hv, hm i v hv, List.getElem?_range hi]
        rfl
      · rw [List.getElem?_eq_none (by rw [lm]; show 11 ≤ i; omega), List.getElem?_eq_none (by simp; omega)]
        rfl
    rw [em] at hB4
    have s24 := s23.trans s4
    have QB : Qg ≠ Bg := fun z => by rw [← z, hQ3] at nB; cases nB
    have iv4 : LW T.C_Waiting H4 p c o S (fun b => b = Qg ∨ b = Bg ∨ b ∈ ls) Qg Bg ls (fun _ => []) (fun _ => false) (fun _ => []) (fun _ => false) 0 := by
      obtain ⟨ms', kk, v, sd, a, b, d, r⟩ := id st2
      obtain ⟨ms0, kk0, v0, sd0, a0, b0, d0, r0⟩ := id st0
      have nBl : Bg ∉ ls := fun m => by rw [(hls Bg m).1] at nB; cases nB
      have un : ∀ b x, H2 b = some x → ¬ (b = Qg ∨ b = Bg ∨ b ∈ ls) := fun b x e m => by
        rcases m with m | m | m
        · rw [m, nQ] at e; cases e
        · rw [m] at e; rw [s23 _ _ e] at nB; cases nB
        · rw [(hls b m).2.1] at e; cases e
      refine ⟨hs.keep (fun b x _ e => s24 b x e) (Nat.le_refl _), ⟨s4 _ _ hQ3, hB4, by rw [hl]; rfl, fun i l a => s4 _ _ (hls l (List.mem_of_getElem? a)).1, hnd, QB, fun m => (hls Qg m).2.2 rfl, nBl, .inl rfl, .inr (.inl rfl), fun l m => .inr (.inr m), fun b m => ?_⟩, st2.same s24, fun b m m2 => ?_, nS _ _ b0, nS _ _ d0, un _ _ b, un _ _ d⟩
      · rcases m with rfl | rfl | m
        · exact ⟨_, s4 _ _ hQ3⟩
        · exact ⟨_, hB4⟩
        · exact ⟨_, s4 _ _ (hls b m).1⟩
      · obtain ⟨x, e⟩ := (let ⟨_, _, _, _, _, h⟩ := hs; h.live b m2)
        exact un b x e m
    walk_at "my rn"
    refine ⟨p, c, _, rfl, iv4.st, by decide, by decide, fun m2 H5 m20 m21 st5 k5 => ?_⟩
    have iv5 := iv4.draw st5 k5
    walk_at "my rn"
    refine ⟨by omega, by omega, for_it walk_range (fun i σ H' => ∃ (S U : Addr → Prop) (ls : List Addr) (qs : Int → List Int) (bg : Int → Bool) (y4 y6 y7 y8 y9 y10 : Option V), σ = [some (.ref l), some (.ref p), some (.ref o), some (.ref Qg), y4, some (.ref Bg), y6, y7, y8, y9, y10] ∧
      LW T.C_Waiting H' p c o S U Qg Bg ls qs bg qs bg i) ⟨S, _, ls, _, _, none, none, none, none, none, none, rfl, iv5⟩ (fun _ _ _ _ _ => trivial) ?_ ?_⟩
    · rintro i x σ H6 H6' hi ⟨S, U, ls, qs, bg, y4, y6, y7, y8, y9, y10, rfl, iv⟩ yy
      obtain ⟨rfl, e3⟩ := Rd.zr yy
      subst e3
      walk_at "my rn"
      refine ⟨p, c, _, rfl, iv.st, by decide, by decide, fun tn H7 tn0 tn1 st7 k7 => ?_⟩
      have iv7 := iv.draw st7 k7
      walk_at "my rn"
      refine ⟨Qg, Bg, U, ls, qs, bg, rfl, iv7.lq, fun H8 F ys s8 nF hF hy ly => ?_⟩
      have iv8 := iv7.same s8
      walk_at "my rn"
      refine ⟨by decide, ?_⟩
      intro R nR
      refine lc_some walk_range (fun v => 1 ≤ v ∧ v ≤ 10 ∧ bg v = true) (fun _ _ => False) nR (by decide) (fun _ _ => trivial) (fun j x H4 H4' Kt Kn hj b yy kt kn => ?_) (fun H9 rs hrs _ lrs s9 hR => ?_)
      · obtain ⟨rfl, rfl⟩ := yy
        have hj2 : j < 10 := hj
        have hB9 := (b.to nR) _ _ iv8.lq.hB
        simp only [List.map_cons, List.map_nil, L2.wipe, List.set_cons_succ, List.set_cons_zero]
        walk_at "my rn"
        refine ⟨rfl, ?_⟩
        walk_at "my rn"
        refine Rd.ixL hB9 (bgL_at (by omega) (by omega)) ?_
        walk_at "my rn"
        refine Rd.ifB (fun c1 => ?_) (fun c1 => ?_)
        · walk_at "my rn"
          exact kt _ _ ⟨by omega, by omega, c1⟩ (fun u h => h.elim) (Same.refl _)
        · exact kn _ (fun u h => h) (Same.refl _)
      have iv9 := iv8.same s9
      have hF9 := s9 _ _ hF
      have Fp : F ≠ p := (st7.ne nF).1
      have Rp : R ≠ p := (iv8.st.ne nR).1
      walk_at "my rn"
      refine ⟨fun σ' H' => ∃ (S U : Addr → Prop) (ls : List Addr) (qs : Int → List Int) (bg : Int → Bool) (y4 y10 : Option V), σ' = [some (.ref l), some (.ref p), some (.ref o), some (.ref Qg), y4, some (.ref Bg), some (.int (i : Int)), some (.int tn), some (.ref F), some (.ref R), y10] ∧
        LW T.C_Waiting H' p c o S U Qg Bg ls qs bg qs bg (i + 1), ?_, ?_⟩
      · obtain ⟨dx2, Qa, Ba, q0, b0, h0⟩ := id iv9.wt
        have h00 := h0.ob
        have fb : (wf Qa Ba).lookup ("begin" : Str) = none := by with_unfolding_all rfl
        have fe : (wf Qa Ba).lookup ("end" : Str) = none := by with_unfolding_all rfl
        have fa : (wf Qa Ba).lookup ("arrive" : Str) = none := by with_unfolding_all rfl
        walk_at "my rn"
        intro tp H10 ntp s10 htp
        have iv10 := iv9.same s10
        have hF10 := s10 _ _ hF9
        have hR10 := s10 _ _ hR
        refine inT (ns := [0, 1]) htp ?_
        walk_at "my rn"
        refine Rd.ifD (fun c1 => ?_) (fun c1 => ?_)
        walk_at "my rn"
        refine Rd.ifD (fun c2 => ?_) (fun c2 => ?_)
        · rw [List.length_map] at c2
          walk_at "my rn"
          refine Rd.ifD (fun c3 => ?_) (fun c3 => ?_)
          · walk_at "my rn"
            · omega
            intro nu hk _
            have iv11 := iv10
            obtain ⟨y1, y2, y3, y4'⟩ := hy.1 nu hk
            obtain ⟨x, r, hxr⟩ : ∃ x r, qs nu = x :: r := by
              cases z : qs nu with
              | nil => exact absurd z y3
              | cons x r => exact ⟨x, r, rfl⟩
            obtain ⟨dx3, Qa3, Ba3, q3, b3, h3⟩ := id iv11.wt
            have h03 := h3.ob
            have fb3 : (wf Qa3 Ba3).lookup ("begin" : Str) = none := by with_unfolding_all rfl
            walk_at "my rn"
            refine ⟨o, nu, x, r, S, qs, bg, i, rfl, iv11.wt, by omega, hxr, fun H12 wt12 kp12 => ?_⟩
            have iv12 := iv11.act wt12 kp12 fun b m => .inl m
            obtain ⟨lz, hl1, hl2, hl3⟩ := iv12.lq.at_ (k := nu) (by omega) (by omega)
            rw [hxr, List.map_cons] at hl3
            walk_at "my rn"
            refine Rd.ixL iv12.lq.hQ hl2 ?_
            walk_at "my rn"
            refine Rd.ixL hl3 (Rd.at_val (j := 0) rfl rfl) ?_
            walk_at "my rn"
            rw [decide_eq_true rfl]
            walk_at "my rn"
            refine Rd.ixL iv12.lq.hQ hl2 ?_
            walk_at "my rn"
            intro z H13 nz s13 hz
            have hz2 : H13 z = some (.lst (r.map V.int)) := by
              rw [hz, show cutV (V.int x :: r.map V.int) (some 1) none = r.map V.int from Rd.cut_from _ 1]
            have hQ13 := s13 _ _ iv12.lq.hQ
            walk_at "my rn"
            refine Rd.setL hQ13 (by rw [List.length_map, iv12.lq.len]; exact ix_nn (by omega) (by omega)) ?_
            obtain ⟨H14, e14⟩ : ∃ H14, H14 = upd H13 Qg (.lst ((ls.map V.ref).set nu.toNat (.ref z))) := ⟨_, rfl⟩
            rw [← e14]
            have zQ : z ≠ Qg := fun w => by rw [w, iv12.lq.hQ] at nz; cases nz
            have kp14 : ∀ b y, b ≠ Qg → H12 b = some y → H14 b = some y := fun b y n e => by rw [e14, upd_ne n]; exact s13 _ _ e
            have lq14 := iv12.lq.row_new (H3 := H14) (k := nu) (z := z) (e' := r) (by omega) (by omega) (by rw [e14, upd_ne zQ]; exact hz2) (by rw [e14]; exact upd_same) kp14 nz
            have iv14 := iv12.job lq14 (fun b y nb e => kp14 b y (fun w => nb (by rw [w]; exact iv12.lq.uQ)) e) fun b m => m.elim .inl fun w => .inr (by rw [w]; exact nz)
            walk_at "my rn"
            refine Rd.setL iv14.lq.hB (by rw [bgL_len]; exact ix_nn (by omega) (by omega)) ?_
            have lq15 := iv14.lq.flag (H3 := upd H14 Bg (.lst ((bgL bg).set nu.toNat (.bl true)))) (k := nu) (v := true) (by omega) (by omega) upd_same (fun b x n e => by rw [upd_ne n]; exact e)
            have iv15 := iv14.job lq15 (fun b y nb e => by
              have b1 : b ≠ Bg := fun w => nb (by rw [w]; exact iv14.lq.uB)
              rw [upd_ne b1]
              exact e) fun b m => .inl m
            walk_at "my rn"
            exact ⟨S, _, _, _, _, _, _, rfl, iv15⟩
          · walk_at "my rn"
            refine ⟨p, c, _, rfl, iv10.st, by rw [List.length_map]; omega, by rw [List.length_map]; omega, fun ix H11 ix0 ix1 st11 k11 => ?_⟩
            rw [List.length_map] at ix1
            have iv11 := iv10.draw st11 k11
            have hF11 := k11 _ _ Fp hF10
            obtain ⟨nu, hnu⟩ : ∃ x, ys[ix.toNat]? = some x := ⟨_, List.getElem?_eq_getElem (by omega)⟩
            have hk := List.mem_of_getElem? hnu
            refine Rd.ixL hF11 (Rd.at_int (j := ix.toNat) (by omega) hnu) ?_
            obtain ⟨y1, y2, y3, y4'⟩ := hy.1 nu hk
            obtain ⟨x, r, hxr⟩ : ∃ x r, qs nu = x :: r := by
              cases z : qs nu with
              | nil => exact absurd z y3
              | cons x r => exact ⟨x, r, rfl⟩
            obtain ⟨dx3, Qa3, Ba3, q3, b3, h3⟩ := id iv11.wt
            have h03 := h3.ob
            have fb3 : (wf Qa3 Ba3).lookup ("begin" : Str) = none := by with_unfolding_all rfl
            walk_at "my rn"
            refine ⟨o, nu, x, r, S, qs, bg, i, rfl, iv11.wt, by omega, hxr, fun H12 wt12 kp12 => ?_⟩
            have iv12 := iv11.act wt12 kp12 fun b m => .inl m
            obtain ⟨lz, hl1, hl2, hl3⟩ := iv12.lq.at_ (k := nu) (by omega) (by omega)
            rw [hxr, List.map_cons] at hl3
            walk_at "my rn"
            refine Rd.ixL iv12.lq.hQ hl2 ?_
            walk_at "my rn"
            refine Rd.ixL hl3 (Rd.at_val (j := 0) rfl rfl) ?_
            walk_at "my rn"
            rw [decide_eq_true rfl]
            walk_at "my rn"
            refine Rd.ixL iv12.lq.hQ hl2 ?_
            walk_at "my rn"
            intro z H13 nz s13 hz
            have hz2 : H13 z = some (.lst (r.map V.int)) := by
              rw [hz, show cutV (V.int x :: r.map V.int) (some 1) none = r.map V.int from Rd.cut_from _ 1]
            have hQ13 := s13 _ _ iv12.lq.hQ
            walk_at "my rn"
            refine Rd.setL hQ13 (by rw [List.length_map, iv12.lq.len]; exact ix_nn (by omega) (by omega)) ?_
            obtain ⟨H14, e14⟩ : ∃ H14, H14 = upd H13 Qg (.lst ((ls.map V.ref).set nu.toNat (.ref z))) := ⟨_, rfl⟩
            rw [← e14]
            have zQ : z ≠ Qg := fun w => by rw [w, iv12.lq.hQ] at nz; cases nz
            have kp14 : ∀ b y, b ≠ Qg → H12 b = some y → H14 b = some y := fun b y n e => by rw [e14, upd_ne n]; exact s13 _ _ e
            have lq14 := iv12.lq.row_new (H3 := H14) (k := nu) (z := z) (e' := r) (by omega) (by omega) (by rw [e14, upd_ne zQ]; exact hz2) (by rw [e14]; exact upd_same) kp14 nz
            have iv14 := iv12.job lq14 (fun b y nb e => kp14 b y (fun w => nb (by rw [w]; exact iv12.lq.uQ)) e) fun b m => m.elim .inl fun w => .inr (by rw [w]; exact nz)
            walk_at "my rn"
            refine Rd.setL iv14.lq.hB (by rw [bgL_len]; exact ix_nn (by omega) (by omega)) ?_
            have lq15 := iv14.lq.flag (H3 := upd H14 Bg (.lst ((bgL bg).set nu.toNat (.bl true)))) (k := nu) (v := true) (by omega) (by omega) upd_same (fun b x n e => by rw [upd_ne n]; exact e)
            have iv15 := iv14.job lq15 (fun b y nb e => by
              have b1 : b ≠ Bg := fun w => nb (by rw [w]; exact iv14.lq.uB)
              rw [upd_ne b1]
              exact e) fun b m => .inl m
            walk_at "my rn"
            exact ⟨S, _, _, _, _, _, _, rfl, iv15⟩
        all_goals
          walk_at "my rn"
          refine Rd.ifD (fun c4 => ?_) (fun c4 => ?_)
          walk_at "my rn"
          refine Rd.ifD (fun c5 => ?_) (fun c5 => ?_)
          · rw [List.length_map] at c5
            walk_at "my rn"
            refine ⟨p, c, _, rfl, iv10.st, by rw [List.length_map]; omega, by rw [List.length_map]; have : rs.length ≤ (11 - 1 : Int).toNat := lrs; omega, fun ix H11 ix0 ix1 st11 k11 => ?_⟩
            rw [List.length_map] at ix1
            have iv11 := iv10.draw st11 k11
            have hR11 := k11 _ _ Rp hR10
            obtain ⟨nu, hnu⟩ : ∃ x, rs[ix.toNat]? = some x := ⟨_, List.getElem?_eq_getElem (by omega)⟩
            obtain ⟨y1, y2, y3⟩ := hrs nu (List.mem_of_getElem? hnu)
            obtain ⟨dx3, Qa3, Ba3, q3, b3, h3⟩ := id iv11.wt
            have h03 := h3.ob
            have fb3 : (wf Qa3 Ba3).lookup ("end" : Str) = none := by with_unfolding_all rfl
            refine Rd.ixL hR11 (Rd.at_int (j := ix.toNat) (by omega) hnu) ?_
            walk_at "my rn"
            refine ⟨o, nu, S, qs, bg, i, rfl, iv11.wt, y3, fun H12 wt12 kp12 => ?_⟩
            have iv12 := iv11.act wt12 kp12 fun b m => .inl m
            walk_at "my rn"
            refine Rd.setL iv12.lq.hB (by rw [bgL_len]; exact ix_nn (by omega) (by omega)) ?_
            have lq13 := iv12.lq.flag (H3 := upd H12 Bg (.lst ((bgL bg).set nu.toNat (.bl false)))) (k := nu) (v := false) (by omega) (by omega) upd_same (fun b x n e => by rw [upd_ne n]; exact e)
            have iv13 := iv12.job lq13 (fun b x nb e => by
              have b1 : b ≠ Bg := fun w => nb (by rw [w]; exact iv12.lq.uB)
              rw [upd_ne b1]
              exact e) fun b m => .inl m
            walk_at "my rn"
            exact ⟨S, U, _, _, _, _, _, rfl, iv13.le (Nat.le_succ _)⟩
          all_goals
            walk_at "my rn"
            refine ⟨p, c, _, rfl, iv10.st, by decide, by decide, fun nb H11 nb0 nb1 st11 k11 => ?_⟩
            have iv11 := iv10.draw st11 k11
            walk_at "my rn"
            refine ⟨p, c, _, rfl, iv11.st, by decide, by decide, fun tm H12 tm0 tm1 st12 k12 => ?_⟩
            have iv12 := iv11.draw st12 k12
            obtain ⟨dx3, Qa3, Ba3, q3, b3, h3⟩ := id iv12.wt
            have h03 := h3.ob
            have fb3 : (wf Qa3 Ba3).lookup ("arrive" : Str) = none := by with_unfolding_all rfl
            have bn3 := h3.bn (1 + nb)
            walk_at "my rn"
            refine ⟨o, _, _, S, qs, bg, i, rfl, iv12.wt, by omega, by omega, by omega, fun H13 S' wt13 kp13 gr13 => ?_⟩
            have iv13 := iv12.act wt13 kp13 gr13
            obtain ⟨lz, hl1, hl2, hl3⟩ := iv13.lq.at_ (k := 1 + nb) (by omega) (by omega)
            walk_at "my rn"
            refine Rd.ixL iv13.lq.hQ hl2 ?_
            walk_at "my rn"
            refine Rd.app hl3 (Rd.szl (by rw [List.length_map]; omega)) ?_
            have lq14 := iv13.lq.row_put (H3 := upd H13 lz (.lst ((qs (1 + nb)).map V.int ++ [.int tm]))) (k := 1 + nb) (e' := qs (1 + nb) ++ [tm]) (by omega) (by omega) hl1 (by rw [upd_same, List.map_append]; rfl) (fun b x n e => by rw [upd_ne n]; exact e)
            have iv14 := iv13.job lq14 (fun b x nbb e => by
              have b1 : b ≠ lz := fun w => nbb (by rw [w]; exact iv13.lq.ul lz (List.mem_of_getElem? hl1))
              rw [upd_ne b1]
              exact e) fun b m => .inl m
            walk_at "my rn"
            exact ⟨S', U, _, _, _, _, _, rfl, iv14⟩
      · rintro σ' H10 ⟨S, U, ls, qs, bg, y4, y10, rfl, iv10⟩
        walk_at "my rn"
        refine ⟨o, Qg, Bg, S, U, ls, qs, bg, i + 1, rfl, iv10.wt, by omega, iv10.lq, fun H11 s11 => ?_⟩
        walk_at "my rn"
        exact ⟨S, U, ls, qs, bg, _, _, _, _, _, _, rfl, iv10.same s11⟩
    · rintro σ H6 ⟨S, U, ls, qs, bg, y4, y6, y7, y8, y9, y10, rfl, iv⟩
      walk_at "my rn"
      exact q _
end

def top_mk {P : Program} {w : World} {K : PySem.W.Frag} {h : Heap} {mg : Str → Option Value} (X : K.In h) (G : h.Ns mainGlobals mg)
    {a__law_start : Addr} {od__law_start an__law_start : Option Addr} {sl__law_start : Array (Option Value)} {oc__law_start kV__law_start dc__law_start pm__law_start cd__law_start ct__law_start : Value}
    {a__law_draw : Addr} {od__law_draw an__law_draw : Option Addr} {sl__law_draw : Array (Option Value)} {oc__law_draw kV__law_draw dc__law_draw pm__law_draw cd__law_draw ct__law_draw : Value}
    {a_Waiting_init : Addr} {od_Waiting_init an_Waiting_init : Option Addr} {sl_Waiting_init : Array (Option Value)} {oc_Waiting_init kV_Waiting_init dc_Waiting_init pm_Waiting_init cd_Waiting_init ct_Waiting_init : Value}
    {a_Waiting_arrive : Addr} {od_Waiting_arrive an_Waiting_arrive : Option Addr} {sl_Waiting_arrive : Array (Option Value)} {oc_Waiting_arrive kV_Waiting_arrive dc_Waiting_arrive pm_Waiting_arrive cd_Waiting_arrive ct_Waiting_arrive : Value}
    {a_Waiting_highest : Addr} {od_Waiting_highest an_Waiting_highest : Option Addr} {sl_Waiting_highest : Array (Option Value)} {oc_Waiting_highest kV_Waiting_highest dc_Waiting_highest pm_Waiting_highest cd_Waiting_highest ct_Waiting_highest : Value}
    {a_Waiting_begin : Addr} {od_Waiting_begin an_Waiting_begin : Option Addr} {sl_Waiting_begin : Array (Option Value)} {oc_Waiting_begin kV_Waiting_begin dc_Waiting_begin pm_Waiting_begin cd_Waiting_begin ct_Waiting_begin : Value}
    {a_Waiting_end : Addr} {od_Waiting_end an_Waiting_end : Option Addr} {sl_Waiting_end : Array (Option Value)} {oc_Waiting_end kV_Waiting_end dc_Waiting_end pm_Waiting_end cd_Waiting_end ct_Waiting_end : Value}
    {a_Waiting_times : Addr} {od_Waiting_times an_Waiting_times : Option Addr} {sl_Waiting_times : Array (Option Value)} {oc_Waiting_times kV_Waiting_times dc_Waiting_times pm_Waiting_times cd_Waiting_times ct_Waiting_times : Value}
    {a__law_ready : Addr} {od__law_ready an__law_ready : Option Addr} {sl__law_ready : Array (Option Value)} {oc__law_ready kV__law_ready dc__law_ready pm__law_ready cd__law_ready ct__law_ready : Value}
    {a__law_same : Addr} {od__law_same an__law_same : Option Addr} {sl__law_same : Array (Option Value)} {oc__law_same kV__law_same dc__law_same pm__law_same cd__law_same ct__law_same : Value}
    {a_law : Addr} {od_law an_law : Option Addr} {sl_law : Array (Option Value)} {oc_law kV_law dc_law pm_law cd_law ct_law : Value}
    {C_Waiting : Addr}
    (n__law_start : PySem.W.nsIn K mainGlobals "_law_start" = some (some (.ref a__law_start)))
    (n__law_draw : PySem.W.nsIn K mainGlobals "_law_draw" = some (some (.ref a__law_draw)))
    (n__law_ready : PySem.W.nsIn K mainGlobals "_law_ready" = some (some (.ref a__law_ready)))
    (n__law_same : PySem.W.nsIn K mainGlobals "_law_same" = some (some (.ref a__law_same)))
    (n_law : PySem.W.nsIn K mainGlobals "law" = some (some (.ref a_law)))
    (nc_Waiting : PySem.W.nsIn K mainGlobals "Waiting" = some (some (.ref C_Waiting)))
    (l__law_start : K.lookup a__law_start = some ⟨oc__law_start, od__law_start, .func (PySem.W.fnOf "_law_start" "_law_start" (defArgs s__law_start) (defBody s__law_start) (defScope s__law_start) .none kV__law_start dc__law_start pm__law_start an__law_start cd__law_start ct__law_start), sl__law_start⟩)
    (c__law_start : PySem.W.codeIn K cd__law_start "_law_start" = true)
    (k__law_start : PySem.W.keepIn K (.ref a__law_start) = true)
    (l__law_draw : K.lookup a__law_draw = some ⟨oc__law_draw, od__law_draw, .func (PySem.W.fnOf "_law_draw" "_law_draw" (defArgs s__law_draw) (defBody s__law_draw) (defScope s__law_draw) .none kV__law_draw dc__law_draw pm__law_draw an__law_draw cd__law_draw ct__law_draw), sl__law_draw⟩)
    (c__law_draw : PySem.W.codeIn K cd__law_draw "_law_draw" = true)
    (k__law_draw : PySem.W.keepIn K (.ref a__law_draw) = true)
    (fi_Waiting_init : PySem.W.findIn K (.ref C_Waiting) "__init__" = some (some (.ref a_Waiting_init)))
    (fn_Waiting_init : PySem.W.isFn K (.ref a_Waiting_init) = true)
    (l_Waiting_init : K.lookup a_Waiting_init = some ⟨oc_Waiting_init, od_Waiting_init, .func (PySem.W.fnOf "__init__" "Waiting.__init__" (defArgs s_Waiting_init) (defBody s_Waiting_init) (defScope s_Waiting_init) .none kV_Waiting_init dc_Waiting_init pm_Waiting_init an_Waiting_init cd_Waiting_init ct_Waiting_init), sl_Waiting_init⟩)
    (c_Waiting_init : PySem.W.codeIn K cd_Waiting_init "Waiting.__init__" = true)
    (k_Waiting_init : PySem.W.keepIn K (.ref a_Waiting_init) = true)
    (fi_Waiting_arrive : PySem.W.findIn K (.ref C_Waiting) "arrive" = some (some (.ref a_Waiting_arrive)))
    (fn_Waiting_arrive : PySem.W.isFn K (.ref a_Waiting_arrive) = true)
    (l_Waiting_arrive : K.lookup a_Waiting_arrive = some ⟨oc_Waiting_arrive, od_Waiting_arrive, .func (PySem.W.fnOf "arrive" "Waiting.arrive" (defArgs s_Waiting_arrive) (defBody s_Waiting_arrive) (defScope s_Waiting_arrive) .none kV_Waiting_arrive dc_Waiting_arrive pm_Waiting_arrive an_Waiting_arrive cd_Waiting_arrive ct_Waiting_arrive), sl_Waiting_arrive⟩)
    (c_Waiting_arrive : PySem.W.codeIn K cd_Waiting_arrive "Waiting.arrive" = true)
    (k_Waiting_arrive : PySem.W.keepIn K (.ref a_Waiting_arrive) = true)
    (fi_Waiting_highest : PySem.W.findIn K (.ref C_Waiting) "highest" = some (some (.ref a_Waiting_highest)))
    (fn_Waiting_highest : PySem.W.isFn K (.ref a_Waiting_highest) = true)
    (l_Waiting_highest : K.lookup a_Waiting_highest = some ⟨oc_Waiting_highest, od_Waiting_highest, .func (PySem.W.fnOf "highest" "Waiting.highest" (defArgs s_Waiting_highest) (defBody s_Waiting_highest) (defScope s_Waiting_highest) .none kV_Waiting_highest dc_Waiting_highest pm_Waiting_highest an_Waiting_highest cd_Waiting_highest ct_Waiting_highest), sl_Waiting_highest⟩)
    (c_Waiting_highest : PySem.W.codeIn K cd_Waiting_highest "Waiting.highest" = true)
    (k_Waiting_highest : PySem.W.keepIn K (.ref a_Waiting_highest) = true)
    (fi_Waiting_begin : PySem.W.findIn K (.ref C_Waiting) "begin" = some (some (.ref a_Waiting_begin)))
    (fn_Waiting_begin : PySem.W.isFn K (.ref a_Waiting_begin) = true)
    (l_Waiting_begin : K.lookup a_Waiting_begin = some ⟨oc_Waiting_begin, od_Waiting_begin, .func (PySem.W.fnOf "begin" "Waiting.begin" (defArgs s_Waiting_begin) (defBody s_Waiting_begin) (defScope s_Waiting_begin) .none kV_Waiting_begin dc_Waiting_begin pm_Waiting_begin an_Waiting_begin cd_Waiting_begin ct_Waiting_begin), sl_Waiting_begin⟩)
    (c_Waiting_begin : PySem.W.codeIn K cd_Waiting_begin "Waiting.begin" = true)
    (k_Waiting_begin : PySem.W.keepIn K (.ref a_Waiting_begin) = true)
    (fi_Waiting_end : PySem.W.findIn K (.ref C_Waiting) "end" = some (some (.ref a_Waiting_end)))
    (fn_Waiting_end : PySem.W.isFn K (.ref a_Waiting_end) = true)
    (l_Waiting_end : K.lookup a_Waiting_end = some ⟨oc_Waiting_end, od_Waiting_end, .func (PySem.W.fnOf "end" "Waiting.end" (defArgs s_Waiting_end) (defBody s_Waiting_end) (defScope s_Waiting_end) .none kV_Waiting_end dc_Waiting_end pm_Waiting_end an_Waiting_end cd_Waiting_end ct_Waiting_end), sl_Waiting_end⟩)
    (c_Waiting_end : PySem.W.codeIn K cd_Waiting_end "Waiting.end" = true)
    (k_Waiting_end : PySem.W.keepIn K (.ref a_Waiting_end) = true)
    (fi_Waiting_times : PySem.W.findIn K (.ref C_Waiting) "times" = some (some (.ref a_Waiting_times)))
    (fn_Waiting_times : PySem.W.isFn K (.ref a_Waiting_times) = true)
    (l_Waiting_times : K.lookup a_Waiting_times = some ⟨oc_Waiting_times, od_Waiting_times, .func (PySem.W.fnOf "times" "Waiting.times" (defArgs s_Waiting_times) (defBody s_Waiting_times) (defScope s_Waiting_times) .none kV_Waiting_times dc_Waiting_times pm_Waiting_times an_Waiting_times cd_Waiting_times ct_Waiting_times), sl_Waiting_times⟩)
    (c_Waiting_times : PySem.W.codeIn K cd_Waiting_times "Waiting.times" = true)
    (k_Waiting_times : PySem.W.keepIn K (.ref a_Waiting_times) = true)
    (l__law_ready : K.lookup a__law_ready = some ⟨oc__law_ready, od__law_ready, .func (PySem.W.fnOf "_law_ready" "_law_ready" (defArgs s__law_ready) (defBody s__law_ready) (defScope s__law_ready) .none kV__law_ready dc__law_ready pm__law_ready an__law_ready cd__law_ready ct__law_ready), sl__law_ready⟩)
    (c__law_ready : PySem.W.codeIn K cd__law_ready "_law_ready" = true)
    (k__law_ready : PySem.W.keepIn K (.ref a__law_ready) = true)
    (l__law_same : K.lookup a__law_same = some ⟨oc__law_same, od__law_same, .func (PySem.W.fnOf "_law_same" "_law_same" (defArgs s__law_same) (defBody s__law_same) (defScope s__law_same) .none kV__law_same dc__law_same pm__law_same an__law_same cd__law_same ct__law_same), sl__law_same⟩)
    (c__law_same : PySem.W.codeIn K cd__law_same "_law_same" = true)
    (k__law_same : PySem.W.keepIn K (.ref a__law_same) = true)
    (l_law : K.lookup a_law = some ⟨oc_law, od_law, .func (PySem.W.fnOf "law" "law" (defArgs s_law) (defBody s_law) (defScope s_law) .none kV_law dc_law pm_law an_law cd_law ct_law), sl_law⟩)
    (c_law : PySem.W.codeIn K cd_law "law" = true)
    (k_law : PySem.W.keepIn K (.ref a_law) = true)
    (kpg_Waiting : PySem.W.plainGet K C_Waiting Str.empty = true)
    (khd_Waiting : PySem.W.hasDictIn K C_Waiting = true)
    (kpo_Waiting : PySem.W.plainOver K C_Waiting = true)
    (ksa_Waiting : PySem.W.findIn K (.ref C_Waiting) "__setattr__" = some (some (.builtin "object.__setattr__")))
    (kmk_Waiting : PySem.W.makesIn K C_Waiting = true)
    (kkc_Waiting : PySem.W.keepIn K (.ref C_Waiting) = true)
    (kn_Waiting_begun : PySem.W.findIn K (.ref C_Waiting) "begun" = some none)
    (kn_Waiting_queues : PySem.W.findIn K (.ref C_Waiting) "queues" = some none)
    (z_list : PySem.W.nsIn K mainGlobals "list" = some none)
    (z_int : PySem.W.nsIn K mainGlobals "int" = some none)
    (z_len : PySem.W.nsIn K mainGlobals "len" = some none)
    (z_abs : PySem.W.nsIn K mainGlobals "abs" = some none)
    (z_max : PySem.W.nsIn K mainGlobals "max" = some none)
    (z_range : PySem.W.nsIn K mainGlobals "range" = some none)
    (z_isinstance : PySem.W.nsIn K mainGlobals "isinstance" = some none)
    (z_bool : PySem.W.nsIn K mainGlobals "bool" = some none) :
    Top K mg :=
  { a__law_start := a__law_start,
    d__law_start := _,
    F__law_start := fun_mk (st := s__law_start) l__law_start c__law_start k__law_start,
    g__law_start := PySem.W.mg_of X G n__law_start,
    b__law_start := (fun_mk (st := s__law_start) l__law_start c__law_start k__law_start).binds (ps := ["script"]) fun _ _ _ _ _ _ us hl => match us, hl with | [_], _ => rfl,
    a__law_draw := a__law_draw,
    d__law_draw := _,
    F__law_draw := fun_mk (st := s__law_draw) l__law_draw c__law_draw k__law_draw,
    g__law_draw := PySem.W.mg_of X G n__law_draw,
    b__law_draw := (fun_mk (st := s__law_draw) l__law_draw c__law_draw k__law_draw).binds (ps := ["state", "many"]) fun _ _ _ _ _ _ us hl => match us, hl with | [_, _], _ => rfl,
    a_Waiting_init := a_Waiting_init,
    d_Waiting_init := _,
    F_Waiting_init := fun_mk (st := s_Waiting_init) l_Waiting_init c_Waiting_init k_Waiting_init,
    M_Waiting := ⟨kmk_Waiting, fi_Waiting_init, fn_Waiting_init, kkc_Waiting⟩,
    b_Waiting_init := (fun_mk (st := s_Waiting_init) l_Waiting_init c_Waiting_init k_Waiting_init).binds (ps := ["self"]) fun _ _ _ _ _ _ us hl => match us, hl with | [_], _ => rfl,
    a_Waiting_arrive := a_Waiting_arrive,
    d_Waiting_arrive := _,
    F_Waiting_arrive := fun_mk (st := s_Waiting_arrive) l_Waiting_arrive c_Waiting_arrive k_Waiting_arrive,
    m_Waiting_arrive := ⟨fi_Waiting_arrive, fn_Waiting_arrive, k_Waiting_arrive⟩,
    b_Waiting_arrive := (fun_mk (st := s_Waiting_arrive) l_Waiting_arrive c_Waiting_arrive k_Waiting_arrive).binds (ps := ["self", "number", "time"]) fun _ _ _ _ _ _ us hl => match us, hl with | [_, _, _], _ => rfl,
    a_Waiting_highest := a_Waiting_highest,
    d_Waiting_highest := _,
    F_Waiting_highest := fun_mk (st := s_Waiting_highest) l_Waiting_highest c_Waiting_highest k_Waiting_highest,
    m_Waiting_highest := ⟨fi_Waiting_highest, fn_Waiting_highest, k_Waiting_highest⟩,
    b_Waiting_highest := (fun_mk (st := s_Waiting_highest) l_Waiting_highest c_Waiting_highest k_Waiting_highest).binds (ps := ["self"]) fun _ _ _ _ _ _ us hl => match us, hl with | [_], _ => rfl,
    a_Waiting_begin := a_Waiting_begin,
    d_Waiting_begin := _,
    F_Waiting_begin := fun_mk (st := s_Waiting_begin) l_Waiting_begin c_Waiting_begin k_Waiting_begin,
    m_Waiting_begin := ⟨fi_Waiting_begin, fn_Waiting_begin, k_Waiting_begin⟩,
    b_Waiting_begin := (fun_mk (st := s_Waiting_begin) l_Waiting_begin c_Waiting_begin k_Waiting_begin).binds (ps := ["self", "number"]) fun _ _ _ _ _ _ us hl => match us, hl with | [_, _], _ => rfl,
    a_Waiting_end := a_Waiting_end,
    d_Waiting_end := _,
    F_Waiting_end := fun_mk (st := s_Waiting_end) l_Waiting_end c_Waiting_end k_Waiting_end,
    m_Waiting_end := ⟨fi_Waiting_end, fn_Waiting_end, k_Waiting_end⟩,
    b_Waiting_end := (fun_mk (st := s_Waiting_end) l_Waiting_end c_Waiting_end k_Waiting_end).binds (ps := ["self", "number"]) fun _ _ _ _ _ _ us hl => match us, hl with | [_, _], _ => rfl,
    a_Waiting_times := a_Waiting_times,
    d_Waiting_times := _,
    F_Waiting_times := fun_mk (st := s_Waiting_times) l_Waiting_times c_Waiting_times k_Waiting_times,
    m_Waiting_times := ⟨fi_Waiting_times, fn_Waiting_times, k_Waiting_times⟩,
    b_Waiting_times := (fun_mk (st := s_Waiting_times) l_Waiting_times c_Waiting_times k_Waiting_times).binds (ps := ["self", "number"]) fun _ _ _ _ _ _ us hl => match us, hl with | [_, _], _ => rfl,
    a__law_ready := a__law_ready,
    d__law_ready := _,
    F__law_ready := fun_mk (st := s__law_ready) l__law_ready c__law_ready k__law_ready,
    g__law_ready := PySem.W.mg_of X G n__law_ready,
    b__law_ready := (fun_mk (st := s__law_ready) l__law_ready c__law_ready k__law_ready).binds (ps := ["queues", "begun"]) fun _ _ _ _ _ _ us hl => match us, hl with | [_, _], _ => rfl,
    a__law_same := a__law_same,
    d__law_same := _,
    F__law_same := fun_mk (st := s__law_same) l__law_same c__law_same k__law_same,
    g__law_same := PySem.W.mg_of X G n__law_same,
    b__law_same := (fun_mk (st := s__law_same) l__law_same c__law_same k__law_same).binds (ps := ["waiting", "queues", "begun"]) fun _ _ _ _ _ _ us hl => match us, hl with | [_, _, _], _ => rfl,
    a_law := a_law,
    d_law := _,
    F_law := fun_mk (st := s_law) l_law c_law k_law,
    g_law := PySem.W.mg_of X G n_law,
    b_law := (fun_mk (st := s_law) l_law c_law k_law).binds (ps := ["script"]) fun _ _ _ _ _ _ us hl => match us, hl with | [_], _ => rfl,
    C_Waiting := C_Waiting,
    gc_Waiting := PySem.W.mg_of X G nc_Waiting,
    cl_Waiting := ⟨kpg_Waiting, khd_Waiting, kpo_Waiting, ksa_Waiting⟩,
    n_Waiting_begun := kn_Waiting_begun,
    n_Waiting_queues := kn_Waiting_queues,
    m_list := PySem.W.mg_none_of X G z_list,
    m_int := PySem.W.mg_none_of X G z_int,
    m_len := PySem.W.mg_none_of X G z_len,
    m_abs := PySem.W.mg_none_of X G z_abs,
    m_max := PySem.W.mg_none_of X G z_max,
    m_range := PySem.W.mg_none_of X G z_range,
    m_isinstance := PySem.W.mg_none_of X G z_isinstance,
    m_bool := PySem.W.mg_none_of X G z_bool }
theorem all_mk {l : PySem.W.OpenLaw} {w : World} {K : PySem.W.Frag} {mg : Str → Option Value} {fa : Addr} (T : Top K mg) (hfa : mg "law" = some (.ref fa)) :
    ∃ fd : FuncData, (∀ (s : Shared) (v : Value), BindsTo s fd ⟨[v], []⟩ [("script", v)]) ∧ ∀ base : Heap, K.In base → base.Ns mainGlobals mg → FnOk l.prog w K mg base CX0 3 fa fd ["script"] (sp_law K) := by
  have e := hfa.symm.trans T.g_law
  cases e
  refine ⟨T.d_law, fun s v => ?_, fun base _ _ => ok_law T⟩
  obtain ⟨oc, od, kV, doc, pm, an, cdv, ct, osl, e, lk, hcd⟩ := T.F_law.ex
  rw [e]
  exact .of_eq rfl
end Mine
open PySem PySem.W PyProof.Rows
set_option maxHeartbeats 0 in
theorem PySem.Challenge.cw_deadbeat_k51_waiting_jobs_holds : PySem.Challenge.rw_deadbeat_k51_waiting_jobs.Holds := by
  w_on; o_law; k_head; (case hw => w_witness2)
  k_fill
  refine L2.walk_of (l := PySem.Challenge.rw_deadbeat_k51_waiting_jobs) (n := 63) (k := 3) (x := "script") (CX := fun _ => L2.CX0) (sp := fun w => Mine.sp_law _) rfl (by decide) rfl ⟨rfl, by decide, by decide⟩ (fun w h Y => PySem.W.kIn_of Y) ?F (fun _ _ a ns hl _ hS => ⟨a, ns, rfl, hS, hl, fun _ => rfl⟩) (fun _ _ _ _ _ h => h)
  case F =>
    intro w mg fa h KX G hmg
    refine' Mine.all_mk (Mine.top_mk (P := PySem.Challenge.rw_deadbeat_k51_waiting_jobs.prog) (w := w) KX G ?n__law_start ?n__law_draw ?n__law_ready ?n__law_same ?n_law ?nc_Waiting ?l__law_start ?c__law_start ?k__law_start ?l__law_draw ?c__law_draw ?k__law_draw ?fi_Waiting_init ?fn_Waiting_init ?l_Waiting_init ?c_Waiting_init ?k_Waiting_init ?fi_Waiting_arrive ?fn_Waiting_arrive ?l_Waiting_arrive ?c_Waiting_arrive ?k_Waiting_arrive ?fi_Waiting_highest ?fn_Waiting_highest ?l_Waiting_highest ?c_Waiting_highest ?k_Waiting_highest ?fi_Waiting_begin ?fn_Waiting_begin ?l_Waiting_begin ?c_Waiting_begin ?k_Waiting_begin ?fi_Waiting_end ?fn_Waiting_end ?l_Waiting_end ?c_Waiting_end ?k_Waiting_end ?fi_Waiting_times ?fn_Waiting_times ?l_Waiting_times ?c_Waiting_times ?k_Waiting_times ?l__law_ready ?c__law_ready ?k__law_ready ?l__law_same ?c__law_same ?k__law_same ?l_law ?c_law ?k_law ?kpg_Waiting ?khd_Waiting ?kpo_Waiting ?ksa_Waiting ?kmk_Waiting ?kkc_Waiting ?kn_Waiting_begun ?kn_Waiting_queues ?z_list ?z_int ?z_len ?z_abs ?z_max ?z_range ?z_isinstance ?z_bool) hmg
    (case n__law_start => k_is); (case n__law_draw => k_is); (case n__law_ready => k_is); (case n__law_same => k_is); (case n_law => k_is); (case nc_Waiting => k_is); (case l__law_start => k_is); (case c__law_start => k_is); (case k__law_start => k_is); (case l__law_draw => k_is); (case c__law_draw => k_is); (case k__law_draw => k_is); (case fi_Waiting_init => k_is); (case fn_Waiting_init => k_is); (case l_Waiting_init => k_is); (case c_Waiting_init => k_is); (case k_Waiting_init => k_is); (case fi_Waiting_arrive => k_is); (case fn_Waiting_arrive => k_is); (case l_Waiting_arrive => k_is); (case c_Waiting_arrive => k_is); (case k_Waiting_arrive => k_is); (case fi_Waiting_highest => k_is); (case fn_Waiting_highest => k_is); (case l_Waiting_highest => k_is); (case c_Waiting_highest => k_is); (case k_Waiting_highest => k_is); (case fi_Waiting_begin => k_is); (case fn_Waiting_begin => k_is); (case l_Waiting_begin => k_is); (case c_Waiting_begin => k_is); (case k_Waiting_begin => k_is); (case fi_Waiting_end => k_is); (case fn_Waiting_end => k_is); (case l_Waiting_end => k_is); (case c_Waiting_end => k_is); (case k_Waiting_end => k_is); (case fi_Waiting_times => k_is); (case fn_Waiting_times => k_is); (case l_Waiting_times => k_is); (case c_Waiting_times => k_is); (case k_Waiting_times => k_is); (case l__law_ready => k_is); (case c__law_ready => k_is); (case k__law_ready => k_is); (case l__law_same => k_is); (case c__law_same => k_is); (case k__law_same => k_is); (case l_law => k_is); (case c_law => k_is); (case k_law => k_is); (case kpg_Waiting => k_is); (case khd_Waiting => k_is); (case kpo_Waiting => k_is); (case ksa_Waiting => k_is); (case kmk_Waiting => k_is); (case kkc_Waiting => k_is); (case kn_Waiting_begun => k_is); (case kn_Waiting_queues => k_is); (case z_list => k_is); (case z_int => k_is); (case z_len => k_is); (case z_abs => k_is); (case z_max => k_is); (case z_range => k_is); (case z_isinstance => k_is); (case z_bool => k_is)
