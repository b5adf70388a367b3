import PyProof.Rows.All
import Wide.All
import OpenK.AllK
import Wide.FinOn
import PyProof.RulesMatch
import HandS.Base
import HandS.Call
import HandS.Words
import HandS.IsInst
import HandS.ForExc
import HandS.Zip
import HandS.Walk
import HandS.Strs
import HandS.ForMost
import HandS.RaiseMore
import PyProof.InstEq
import HandS.TupSets
import PyProof.EqKinds
import PyProof.NeKinds
import HandS.Evl
import HandS.SortInts
import HandS.DictComp
import HandS.More
import PySem.Challenge.RW_deadbeat_k34_what_is_known_stays_true
import HandS.Wide
import HandS.WideBits
import HandS.Style
import HandS.StrMore
import HandS.IntHex
import HandS.ReSub
import HandS.Codes
import HandS.SetFor
import HandS.TupLe
import HandS.SortRule
import HandS.Deep
import HandS.DeepEq
set_option Elab.async false
set_option linter.all false
set_option maxRecDepth 100000
namespace L2
open PySem PySem.Spec PyProof.Rows
/-- the cases of a match over texts: a written text or whatever is left, and what is done -/
def tCases (z : Str) : List (Option Str × TS) → TS
  | [] => fun D σ H => D.nx σ H
  | (none, t) :: _ => t
  | (some c, t) :: r => fun D σ H => if z = c then t D σ H else tCases z r D σ H
def tMatch (te : TE) (l : List (Option Str × TS)) : TS := fun D σ H => te σ H fun x H1 => ∃ z : Str, x = .str z ∧ tCases z l D σ H1
inductive PCs (X : Cx) : List MatchCase → List (Option Str × TS) → Prop
  | nil : PCs X [] []
  | rest {body : List Stmt} {t : TS} {p : Pos} {r : List MatchCase} : PSs X body t → PCs X (⟨.MatchAs none none p, none, body⟩ :: r) [(none, t)]
  | text {body : List Stmt} {t : TS} {c : Str} {j : Nat} {p p2 : Pos} {r : List MatchCase} {l : List (Option Str × TS)} : PSs X body t → PCs X r l →
      PCs X (⟨.MatchValue (.Constant (.str c) j p) p2, none, body⟩ :: r) ((some c, t) :: l)
theorem run_cases {X : Cx} {z : Str} {u : Value} (ru : RelV (.str z) u) : ∀ {cs : List MatchCase} {l : List (Option Str × TS)}, PCs X cs l → ∀ (first : Bool) (pins : List (Addr × Obj)) (s : Shared) (σ : St) (H : Hp) (D : Ends), Inv X pins σ H s → tCases z l D σ H →
    wpAny (model X.prog X.w) X.A (matchCases cs X.env u first) (SP X pins D) X.xe s
  | _, _, .nil, first, pins, s, σ, H, D, I, h => wpAny_matchCases_nil ⟨σ, H, I, h⟩
  | _, _, .rest hb, first, pins, s, σ, H, D, I, h => by
    refine wpAny_matchCases_cons (wpAny_matchPattern_Capture ?_)
    exact wpAny_assignInOrder_none (hb.run pins s σ H D I h)
  | _, _, .text (c := c) (l := l) hb hr, first, pins, s, σ, H, D, I, h => by
    refine wpAny_matchCases_cons (wpAny_matchPattern_Value ?_)
    refine thn ((pe_str (X := X) (x := c)).run pins s σ H (fun v H' => v = .str c ∧ H' = H) I ⟨rfl, rfl⟩) fun v s1 hh => ?_
    obtain ⟨x, H1, I1, rx, ex, eH⟩ := hh
    subst ex
    subst eH
    refine thn (op_eq pins s1 σ H1 (.str z) (.str c) u v (fun y H' => y = .bl (decide (V.str z = V.str c)) ∧ H' = H1) I1 ru rx ⟨rfl, rfl, rfl⟩) fun y s2 hh => ?_
    obtain ⟨x, H2, I2, rx2, ex, eH⟩ := hh
    subst ex
    subst eH
    cases rx2
    refine wpAny_truthy_bool ?_
    have h' : (if z = c then _ else _) := h
    by_cases e : z = c
    · rw [if_pos e] at h'
      rw [decide_eq_true (by rw [e])]
      exact wpAny_assignInOrder_none (hb.run pins s2 σ H2 D I2 h')
    · rw [if_neg e] at h'
      rw [decide_eq_false (fun q => e (by injection q))]
      exact run_cases ru hr false pins s2 σ H2 D I2 h'
theorem ps_match {X : Cx} {e : Expr} {te : TE} {cs : List MatchCase} {l : List (Option Str × TS)} {pos : Pos} (he : PE X e te) (hc : PCs X cs l) : PS X (.Match e cs pos) (tMatch te l) := by
  refine ⟨fun pins s σ H D I h => wpAny_Match ?_⟩
  refine thn (he.run pins s σ H _ I h) fun u s1 hh => ?_
  obtain ⟨x, H1, I1, rx, z, ez, hz⟩ := hh
  subst ez
  exact run_cases rx hc true pins s1 σ H1 D I1 hz
/-- a module's constant: an int, a text, an object -/
theorem pe_gi {X : Cx} {x : Str} {n : Int} {t : Tok} {pos : Pos} (hg : Gl X x) (hm : X.mg x = some (.int n t)) (hd : (x == ("__debug__" : Str)) = false := by decide) : PE X (.Name x pos) (tC (.int n)) := pe_glob hg hm ⟨_, rfl⟩ hd
theorem pe_gs {X : Cx} {x : Str} {z : Str} {t : Tok} {pos : Pos} (hg : Gl X x) (hm : X.mg x = some (.str z t)) (hd : (x == ("__debug__" : Str)) = false := by decide) : PE X (.Name x pos) (tC (.str z)) := pe_glob hg hm ⟨_, rfl⟩ hd
theorem pe_gr {X : Cx} {x : Str} {a : Addr} {pos : Pos} (hg : Gl X x) (hm : X.mg x = some (.ref a)) (hd : (x == ("__debug__" : Str)) = false := by decide) : PE X (.Name x pos) (tC (.ref a)) := pe_glob (v := .ref a) hg hm rfl hd
/-- a built-in type as a value -/
theorem pe_ty {X : Cx} {x : Str} {T : String} {pos : Pos} (hg : Gl X x) (hm : X.mg x = none) (hv : bootBuiltins x = some (.type T)) (hn : x ≠ "__name__" := by decide) (hd : (x == ("__debug__" : Str)) = false := by decide) : PE X (.Name x pos) (tC (.ty T)) :=
  ⟨fun _ s _ H _ I h => ld_blt I hg hm hv ⟨.ty T, H, I, rfl, h⟩ hn hd⟩
/-- isinstance of a plain value and a built-in type -/
theorem isi_int {K : PySem.W.Frag} {H : Hp} {Q : VK} {i : Int} (q : Q (.bl true) H) : rIsi K [.int i, .ty "int"] H Q := ⟨_, _, _, _, true, rfl, .ty _, .base (.int _), kit_ty (by decide +kernel), q⟩
theorem isi_int_bool {K : PySem.W.Frag} {H : Hp} {Q : VK} {i : Int} (q : Q (.bl false) H) : rIsi K [.int i, .ty "bool"] H Q := ⟨_, _, _, _, false, rfl, .ty _, .base (.int _), kit_ty (by decide +kernel), q⟩
theorem Same.none {H H' : Hp} (e : Same H H') {p : Addr} (h : H' p = Option.none) : H p = Option.none := Same.free e h
theorem same_new {H : Hp} {p : Addr} {o : HO} (h : H p = Option.none) : Same H (upd H p o) := fun b x e => by
  rw [upd_ne (ne_of_none e h)]
  exact e
theorem or_test {t u : TT} {σ : St} {H : Hp} {a b : Bool} {Q : Bool → Hp → Prop} (h1 : ∀ Q' : Bool → Hp → Prop, Q' a H → t σ H Q') (h2 : a = false → ∀ Q' : Bool → Hp → Prop, Q' b H → u σ H Q') (q : Q (a || b) H) : tOr t u σ H Q := by
  refine h1 _ ?_
  cases a with
  | true => exact iteT q
  | false => exact iteF (h2 rfl _ q)
theorem and_test {t u : TT} {σ : St} {H : Hp} {a b : Bool} {Q : Bool → Hp → Prop} (h1 : ∀ Q' : Bool → Hp → Prop, Q' a H → t σ H Q') (h2 : a = true → ∀ Q' : Bool → Hp → Prop, Q' b H → u σ H Q') (q : Q (a && b) H) : tAnd t u σ H Q := by
  refine h1 _ ?_
  cases a with
  | true => exact iteT (h2 rfl _ q)
  | false => exact iteF q
theorem if_or {t u : TT} {a b : Bool} {A B : TS} {D : Ends} {σ : St} {H : Hp} (h1 : ∀ Q' : Bool → Hp → Prop, Q' a H → t σ H Q') (h2 : a = false → ∀ Q' : Bool → Hp → Prop, Q' b H → u σ H Q') (q : if (a || b) = true then A D σ H else B D σ H) : tIfS (tOr t u) A B D σ H := or_test h1 h2 q
theorem if_and {t u : TT} {a b : Bool} {A B : TS} {D : Ends} {σ : St} {H : Hp} (h1 : ∀ Q' : Bool → Hp → Prop, Q' a H → t σ H Q') (h2 : a = true → ∀ Q' : Bool → Hp → Prop, Q' b H → u σ H Q') (q : if (a && b) = true then A D σ H else B D σ H) : tIfS (tAnd t u) A B D σ H := and_test h1 h2 q
theorem Same.off {H H1 : Hp} {D : Addr} {x : HO} (k : Same H H1) (n : H D = Option.none) : Same H (upd H1 D x) := fun b y e => by
  rw [upd_ne (ne_of_none e n)]
  exact k b y e
theorem Same.seqT {K : PySem.W.Frag} {H H' : Hp} {a : Addr} {xs : List V} (e : Same H H') (h : SqT K H a xs) : SqT K H' a xs := by
  rcases h with h | h
  · rcases h with h | ⟨o, h⟩
    · exact .inl (.inl (e _ _ h))
    · exact .inl (.inr ⟨o, e _ _ h⟩)
  · exact .inr h
/-- a def that may raise, called where it does not -/
theorem pass_no {X : Cx} : Passes (L2.CX X.prog X.w) X (fun _ _ _ => False) := fun _ _ _ _ _ _ _ c => by
  obtain ⟨_, _, _, _, _, _, _, _, _, _, _, _, z⟩ := c
  exact z.elim
def rListOf (K : PySem.W.Frag) : List V → Hp → VK → Prop := fun xs H Q => ∃ p ys, xs = [V.ref p] ∧ (SqL K H p ys ∨ SqT K H p ys) ∧ ∀ l, H l = Option.none → Q (.ref l) (upd H l (.lst ys))
theorem if_t {b : Bool} {A B : Prop} (h : b = true) (q : A) : if b = true then A else B := by
  rw [if_pos h]
  exact q
theorem if_f {b : Bool} {A B : Prop} (h : b = false) (q : B) : if b = true then A else B := by
  rw [if_neg (by rw [h]; exact Bool.noConfusion)]
  exact q
/-- a tuple of the written part, as it stands there -/
theorem sqT_lit {K : PySem.W.Frag} {p : Addr} {dd : Option Addr} {us : Array Value} {n : Nat} {sl : Array (Option Value)} {xs : List V} {H : Hp} (w : K.lookup p = some ⟨.type "tuple", dd, .seq us n, sl⟩) (y : Vals xs us.toList) (hl : xs.length ≤ sizeLine := by decide) : SqT K H p xs :=
  .inr ⟨_, us, n, w, rfl, rfl, Nat.le_trans (Nat.le_of_eq (by rw [← Array.length_toList]; exact (Paired.length y).symm)) hl, y⟩
end L2

set_option Elab.async false
set_option linter.all false
set_option maxRecDepth 100000
namespace L2
open PySem PySem.Spec PyProof.Rows
/-! an own object, and a method, whose def may raise, within a try's body -/
section
variable {X : Cx} {CX : CXT} {lv : Nat} {fa cA : Addr} {fd : FuncData} {pn : List Str} {sp : Sp} {nm mm : Str} {p1 p2 p3 : Pos} {e1 oe : Expr} {er : List Expr} {to' : TE} {tr : TA}
theorem mkS_run {EE : XK} {pins : List (Addr × Obj)} {σ : St} {H : Hp} {s : Shared} {Q : VK} {us : List Value} {vs : List V}
    (M : Mk X.K cA fa) (F : FnOk X.prog X.w X.K X.mg X.base CX lv fa fd pn sp) (rm : Room (lv + 1) X.A)
    (bi : Binds X.K fd pn []) (out : PassesAt CX X σ EE) (I : Inv X pins σ H s) (r : Vals vs us)
    (h : ∀ x dx, H x = none → H dx = none → dx ≠ x →
      sp (.ref x :: vs) (upd (upd H dx (.own x)) x (.ins cA dx [])) (fun v H2 => v = .non ∧ Q (.ref x) H2) EE) :
    wpAny (model X.prog X.w) X.A (call (.ref cA) us) (EP X pins σ Q) X.xe s := by
  have J := Inv.made (C := cA) I
  obtain ⟨n, en⟩ : ∃ n, n = s.heap.objs.size := ⟨_, rfl⟩
  have q0 := h _ _ (I.hok.fresh (Nat.le_succ _)) (I.hok.fresh (Nat.le_refl _)) (Nat.ne_of_lt (Nat.lt_succ_self _))
  have rr : Vals (V.ref (s.heap.objs.size + 1) :: vs) (Value.ref (s.heap.objs.size + 1) :: us) := .cons rfl r
  have ln : (Value.ref (s.heap.objs.size + 1) :: us).length = pn.length :=
    rr.length.symm.trans (F.len _ _ _ _ q0)
  have bb := bi _ (Value.ref (s.heap.objs.size + 1) :: us) J.kIn (by rw [List.append_nil]; exact ln)
  rw [List.append_nil] at bb
  have run := F.run _ X.stack _ _ ⟨Value.ref (s.heap.objs.size + 1) :: us, []⟩ _ _ _ EE
    (rm.make cA us []) (J.env0.make cA us []) bb rr q0
  refine wpAny_call (make_map (f := fa) I.kIn M.makes M.init (beq_iff_eq.mp M.fn) (codeAny_mono run fun res s' got => ?_))
  match res, got with
  | .error e, got => exact out pins _ _ e s' J got
  | .ok (.ret u), got =>
    obtain ⟨v, H', J3, rv, ev, q3⟩ := J.after got
    rw [ev] at rv
    exact ⟨rv, V.ref (s.heap.objs.size + 1), H', J3, rfl, q3⟩
  | .ok .next, got => cases got
  | .ok .brk, got => cases got
  | .ok .cont, got => cases got
def tMakeS (C : Addr) (sp : Sp) (E : St → XK) (t : TA) : TE := fun σ H Q => t σ H fun vs H1 => ∀ x dx, H1 x = none → H1 dx = none → dx ≠ x →
  sp (.ref x :: vs) (upd (upd H1 dx (.own x)) x (.ins C dx [])) (fun v H2 => v = .non ∧ Q (.ref x) H2) (E σ)
theorem pe_makeS {EE : St → XK} (M : Mk X.K cA fa) (F : FnOk X.prog X.w X.K X.mg X.base CX lv fa fd pn sp)
    (rm : Room (lv + 1) X.A) (hg : Gl X nm) (hm : X.mg nm = some (.ref cA)) (bi : Binds X.K fd pn [])
    (out : ∀ σ, PassesAt CX X σ (EE σ)) (ha : PA X (e1 :: er) tr) (nd : (nm == ("__debug__" : Str)) = false := by decide)
    (t1 : starEach (e1 :: er) X.env = (false, eval e1 X.env) :: starEach er X.env := by rfl)
    (t2 : (backTo p2 (starEach er X.env)).any (·.1) = false := by rfl) :
    PE X (.Call (.Name nm p1) (e1 :: er) [] p2) (tMakeS cA sp EE tr) := by
  constructor
  intro pins s σ H Q I h
  refine wpAny_Call_Name_kw (ld_glob I hg hm (PySem.W.callWith_K (h₀ := X.base) I.ok.mod.kin M.kp ?_ t1 t2) nd)
  exact thn (ha.run p2 pins s σ H _ I h) fun us s1 ⟨vs, H1, I1, r, q⟩ => ⟨I1.kIn, mkS_run M F rm bi (out σ) I1 r q⟩
def tMethX (C : Addr) (m : Str) (sp : Sp) (E : St → XK) (ta : TE) (t : TA) : TE := fun σ H Q => ta σ H fun x H1 => ∃ a dx fs, x = .ref a ∧ H1 a = some (.ins C dx fs) ∧ fs.lookup m = none ∧
  t σ H1 fun vs H2 => sp (x :: vs) H2 Q (E σ)
theorem pe_methX {EE : St → XK} {pl : Sem Bool} (ho : PE X oe to') (c : Cls X.K cA) (hm : Meth X.K cA mm fa)
    (F : FnOk X.prog X.w X.K X.mg X.base CX lv fa fd pn sp) (rm : Room lv X.A) (bi : Binds X.K fd pn [])
    (out : ∀ σ, PassesAt CX X σ (EE σ)) (ha : PA X (e1 :: er) tr)
    (t1 : starEach (e1 :: er) X.env = (false, eval e1 X.env) :: starEach er X.env := by rfl)
    (t2 : (backTo p2 (starEach er X.env)).any (·.1) = false := by rfl)
    (ev : eval (.Call (.Attribute oe mm p3) (e1 :: er) [] p2) X.env = (do
      let ov ← eval oe X.env
      standAt p3.atName
      let (f, first) ← holding [ov] (getMethod ov mm pl)
      callWith p2 f first (backTo p2 (starEach (e1 :: er) X.env)) (backToKw p2 (keywordEach [] X.env))) := by rfl) :
    PE X (.Call (.Attribute oe mm p3) (e1 :: er) [] p2) (tMethX cA mm sp EE to' tr) := by
  constructor
  intro pins s σ H Q I h
  refine PySem.W.methodCall_KW (pl := pl) (thn (ho.run pins s σ H _ I h) fun u s1 got => ?_) ev
  obtain ⟨x, H1, I1, rx, a, dx, fs, rfl, ea, l, q⟩ := got
  cases (show u = Value.ref a from rx)
  refine getmeth_ok I1 ea c hm l (PySem.W.callWith_K (first := [.ref a]) (h₀ := X.base) I.ok.mod.kin hm.kp ?_ t1 t2)
  exact thn (ha.run p2 pins s1 σ H1 _ I1 q) fun us s2 ⟨vs, H2, I2, r, q2⟩ => ⟨I2.kIn, run_fnS (us := .ref a :: us) (vs := .ref a :: vs) F rm bi (out σ) I2 (.cons rfl r) q2⟩
end
end L2

set_option Elab.async false
set_option linter.all false
set_option maxRecDepth 100000
namespace L2
open PySem PySem.Spec PySem.Calls PyProof.Rows
/-! an own object without a == of its own, against an integer -/
theorem int_eq_declines_ins (b : Int) (u : Tok) (a C dx : Addr) :
    Meets (Builtin.«int.__eq__» ⟨[.int b u, .ref a], []⟩) (fun _ R s => s.heap.get? a = some (PySem.W.instObj C dx) ∧ R (.ok (.ret .notImplemented)) s) :=
  .of_wp fun prog w A R s h => by
    obtain ⟨hp, g, d, tk, os⟩ := s
    obtain ⟨hl, h⟩ := h
    unfold PySem.W.instObj at hl
    wp_walk using wpAny_loadPart' hl, wpAny_load hl
    exact ⟨_, rfl, h⟩
section
variable {prog : Program} {w : World} {A : Around} {E : Value → Shared → Prop} {s : Shared} {K : PySem.W.Frag} {x C dx : Addr} {od : Option Obj}
theorem ifBound_B {name : Str} {id : String} {args : List Value} {Q : Option Value → Shared → Prop} (X : K.In s.heap) (I : PySem.W.InstAt s.heap x (PySem.W.instObj C dx) C od)
    (hs : PySem.W.findIn K (.ref C) name = some (some (.builtin id))) (hb : ∀ self, bindSpecial (.builtin id) self = pure (.builtin id, [self]))
    (h : wpAny (model prog w) A (call (.builtin id) (.ref x :: args)) (fun v => Q (some v)) E s) : wpAny (model prog w) A (callSpecialIfBound? (.ref x) name args) Q E s := by
  simp only [callSpecialIfBound?, bindSpecialIfBound?]
  refine wpAny_holding (wpAny_bind (wpAny_bind (wpAny_bind (I.type.here ((PySem.W.looks_findIn X hs).here ?_)))))
  simp only [hb]
  refine wpAny_bind (wpAny_askSetting (wpAny_ite ?_))
  have fin : wpAny (model prog w) A (call (.builtin id) ([.ref x] ++ args) >>= fun v => pure (some v)) Q E s := wpAny_bind (wpAny_mono h (fun v s' h' => wpAny_pure h') fun _ _ h' => h')
  split
  · exact wpAny_bind (wpAny_pure (by exact wpAny_pure fin))
  · exact wpAny_tryCatch (wpAny_bind (wpAny_pure (by exact wpAny_pure fin)))
theorem call_objEq_int {n : Int} {t : Tok} {Q : Value → Shared → Prop} (X : K.In s.heap) (I : PySem.W.InstAt s.heap x (PySem.W.instObj C dx) C od)
    (ho : PySem.W.mroIn K C (.type "object") = some true) (hq : Q .notImplemented s) :
    wpAny (model prog w) A (call (.builtin "object.__eq__") [.ref x, .int n t]) Q E s := by
  refine wpAny_call (codeAny_call_builtin F.cmp_object.eq.plain F.cmpEntry_eq ?_)
  simp only [checkBuiltinCall, F.cmpKind_eq, F.cmpSplit_eq]
  refine wpAny_bind ?_
  unfold isInstance
  refine wpAny_bind (I.type.here ((PySem.W.looks_subIn (t := .ref C) X ho).here ?_))
  have body : wpAny (model prog w) A.in1 (Builtin.«object.__eq__» ⟨[.ref x, .int n t], []⟩) (fun fin s' => fin = .done (.ret .notImplemented) ∧ s' = s) E s := by
    unfold Builtin.«object.__eq__»
    have q : isSame (.ref x) (.int n t) = pure false := rfl
    repeat (first | rw [q] | wp_step)
    exact ⟨rfl, rfl⟩
  have fin : wpAny (model prog w) A.in1 (Builtin.«object.__eq__» ⟨[.ref x, .int n t], []⟩) (fun fin s' => match fin with
      | .done f => (match (Except.ok f : Result) with | .ok (.ret v) => Q v s' | .ok _ => False | .error e => E e s')
      | .again c' => c'.quiet = true ∧ codeAny (model prog w) A c' (fun r s' => match r with | .ok (.ret v) => Q v s' | .ok _ => False | .error e => E e s') s') (fun e s' => E e s') s :=
    wpAny_mono body (fun f s' h => by obtain ⟨rfl, rfl⟩ := h; exact hq) (fun _ _ e => e)
  cases hsig : Manifest.signature? "object.__eq__" with
  | none => exact wpAny_pure fin
  | some sig =>
    have ha := F.cmpArgs_eq (.ref x) (.int n t)
    simp only [argsOk, hsig] at ha
    have h2 : Bind.checkArgs "object.__eq__" sig ⟨[.ref x, .int n t], []⟩ = pure () := ha
    show wpAny (model prog w) A.in1 (Bind.checkArgs "object.__eq__" sig ⟨[.ref x, .int n t], []⟩) _ _ s
    rw [h2]
    exact wpAny_pure fin
theorem richCompare_inst_int {n : Int} {t : Tok} {Q : Value → Shared → Prop} (hu : A.units < cLine) (X : K.In s.heap) (I : PySem.W.InstAt s.heap x (PySem.W.instObj C dx) C od)
    (hs : PySem.W.findIn K (.ref C) "__eq__" = some (some (.builtin "object.__eq__"))) (ho : PySem.W.mroIn K C (.type "object") = some true)
    (hn : PySem.W.subIn K (.type "int") (.ref C) = some false) (hq : Q (.bool false) s) : wpAny (model prog w) A (richCompare .Eq (.ref x) (.int n t)) Q E s := by
  unfold richCompare
  simp only [oneThing_ref]
  refine wpAny_holding (wpAny_bind (wpAny_cRoomFor hu ?_))
  refine wpAny_bind (I.type.here (wpAny_bind (wpAny_typeOf (typeIs_int s n t) ?_)))
  have e1 : (Value.ref C != Value.type "int") = true := by rfl
  simp only [e1, if_true]
  refine wpAny_bind ((PySem.W.looks_subIn X hn).here ?_)
  simp only [Bool.false_eq_true, if_false, Bool.not_false, if_true]
  refine wpAny_bind (m := tryCompare (.ref x) _ (.int n t)) ?_
  unfold tryCompare
  refine wpAny_bind (ifBound_B X I hs F.cmp_object.eq.bind (call_objEq_int X I ho ?_))
  refine wpAny_pure ?_
  refine wpAny_bind (m := tryCompare (.int n t) _ (.ref x)) (wpAny_tryCompare_declines (typeIs_int s n t) F.slot_int_eq_refl (call_meets F.slot_int_eq_refl (typeIs_int s n t) F.entry_int_eq (F.args_int_eq_2 _ _) (int_eq_declines_ins n t x C dx) ⟨I.at_, rfl, ?_⟩))
  exact wpAny_bind (wpAny_rule (wpAny_bind (wpAny_of_eq (rfl : isSame (.ref x) (.int n t) = pure false) (wpAny_pure hq))))
end
structure ClsEq (K : PySem.W.Frag) (C : Addr) : Prop where
  eq : PySem.W.findIn K (.ref C) "__eq__" = some (some (.builtin "object.__eq__"))
  ob : PySem.W.mroIn K C (.type "object") = some true
  nt : PySem.W.subIn K (.type "int") (.ref C) = some false
section
variable {X : Cx}
def rEqOI (C : Addr) : R2 := fun x y H Q => ∃ (a dx : Addr) (fs : List (Str × V)) (i : Int), x = .ref a ∧ y = .int i ∧ H a = some (.ins C dx fs) ∧ Q (.bl false) H
theorem op_eqOI {C : Addr} (q : ClsEq X.K C) (hu : X.A.units < cLine) : OpR X (compareOp .Eq) (rEqOI C) := by
  intro pins s σ H x y v u Q I rx ry h
  obtain ⟨a, dx, fs, i, rfl, rfl, ha, hq⟩ := h
  cases (show v = Value.ref a from rx)
  obtain ⟨t, rfl⟩ := ry
  obtain ⟨mA, J, _⟩ := ins_get I.hok ha
  obtain ⟨od, J, _⟩ := J.look
  exact richCompare_inst_int hu I.kIn J q.eq q.ob q.nt ⟨.bl false, H, I, rfl, hq⟩
/-! ### len(set(xs)) for any ints -/
def distinct (ns : List Int) : Nat := (firstMet (fun i => ns.getD i 0) ns.length).length
theorem distinct_nodup {ns : List Int} (h : ns.Nodup) : distinct ns = ns.length := by
  unfold distinct
  rw [firstMet_nodup ns h ns.length (Nat.le_refl _), List.take_length]
theorem distinct_two {x : Int} : distinct [x, x] = 1 := by
  simp [distinct, firstMet, step_dedup, List.range_succ]
def tLenSetD (K : PySem.W.Frag) (ta : TE) : TE := fun σ H Q => ta σ H fun x H1 => ∃ (l : Addr) (ns : List Int), x = V.ref l ∧ SqL K H1 l (ns.map V.int) ∧ ns.length < 64 ∧ Q (.int (distinct ns)) H1
theorem pe_lenSetD {a : Expr} {ta : TE} {p p2 q pos : Pos} (hc : X.calm = true) (hg : Gl X "len") (hm : X.mg "len" = none) (hg2 : Gl X "set") (hm2 : X.mg "set" = none) (ha : PE X a ta)
    (na : starEach [a] X.env = (false, eval a X.env) :: starEach [] X.env := by rfl) : PE X (.Call (.Name "len" p) [.Call (.Name "set" p2) [a] [] q] [] pos) (tLenSetD X.K ta) := by
  refine ⟨fun pins s σ H Q I h => ?_⟩
  refine Call_ (ld_blt I hg hm PySem.boot_len ?_)
  refine PyProof.Rows.callWith_builtin1 (PyProof.Rows.args_cons ?_ rfl) rfl rfl
  refine Call_ (ld_blt I hg2 hm2 PyProof.Rows.boot_set ?_)
  refine PyProof.Rows.callWith_type1 (PyProof.Rows.args_cons (thn (ha.run pins s σ H _ I h) fun v s1 ⟨x, H1, I1, r1, q1⟩ => PyProof.Rows.args_nil ?_) na) na rfl
  obtain ⟨l, ns, rfl, hq, h1, q1⟩ := q1
  cases r1
  obtain ⟨its, r, pl, hz⟩ := I1.list hq
  have hl : its.toArray.size = ns.length := by rw [List.size_toArray, ← r.length, List.length_map]
  refine call_set_list (I1.ok.hd hc) pl.isList (ns := ns) (by simpa using r.ints) (by unfold scanBound; omega) fun h' tk hS hk => ?_
  rw [hl] at hS
  refine PyProof.Rows.args_nil ?_
  obtain ⟨o, es, ep, t, ho, hex, hd, _, _, _, hf, hn⟩ := hS
  have I2 : Inv X pins σ H1 { s1 with heap := h', toks := tk } := I1.kept fun b o e => hk b o (Heap.lt_size e) e
  have dl : (firstMet (fun i => ns.getD i 0) ns.length).length < 64 := Nat.lt_of_le_of_lt (firstMet_length_le _ _) h1
  refine call_len_set ho hex hd hf (by rw [hn] <;> omega) ⟨.int (distinct ns), H1, I2.tok _, ⟨_, by rw [hn]; rfl⟩, q1⟩
end
theorem for_enum {K : PySem.W.Frag} {a : Addr} {xs : List V} {g : TG} {tb : TS} {D : Ends} {σ : St} {H : Hp} (Pv : Nat → St → Hp → Prop) (h0 : Pv 0 σ H) (hl : ∀ i σ H, i ≤ xs.length → Pv i σ H → SqL K H a xs)
    (hs : ∀ (i : Nat) x T σ H, xs[i]? = some x → Pv i σ H → H T = none → g (.ref T) σ (upd H T (.tup [.int i, x])) fun σ2 H2 => tb { D with nx := Pv (i + 1), ct := Pv (i + 1), bk := D.nx } σ2 H2) (hd : ∀ σ H, Pv xs.length σ H → D.nx σ H) :
    ∃ W : Nat → Nat → St → Hp → Prop, (∃ m, W 0 m σ H) ∧ ∀ i m σ H, W i m σ H →
      ((Ite K a).stop i H ∧ D.nx σ H) ∨ ((Ite K a).go i H ∧ ∃ N : St → Hp → Prop, (∀ σ' H', N σ' H' → ∃ m', m' < m ∧ W (i + 1) m' σ' H') ∧ ∀ x H', (Ite K a).yld i H x H' → g x σ H' fun σ2 H2 => tb { D with nx := N, ct := N, bk := D.nx } σ2 H2) := by
  refine ⟨fun i m σ H => m = xs.length - i ∧ i ≤ xs.length ∧ Pv i σ H, ⟨xs.length, by simp, Nat.zero_le _, h0⟩, ?_⟩
  rintro i m σ H ⟨rfl, hi, p⟩
  have q := hl i σ H hi p
  by_cases hlt : i < xs.length
  · refine .inr ⟨⟨xs, xs[i], q, by simp [hlt]⟩, Pv (i + 1), fun σ' H' p' => ⟨xs.length - (i + 1), by omega, rfl, hlt, p'⟩, fun x H' y => ?_⟩
    obtain ⟨T, v, rfl, n, rfl, y⟩ := y
    exact hs i v T σ H (y xs q) p n
  · have e : i = xs.length := by omega
    subst e
    exact .inl ⟨⟨xs, q, Nat.le_refl _⟩, hd σ H p⟩
end L2

set_option Elab.async false
set_option linter.all false
set_option maxRecDepth 100000
namespace Rd
open PySem PySem.Spec PyProof.Rows L2
variable {K : PySem.W.Frag} {σ : L2.St} {H : Hp} {D : Ends} {Q : VK} {ta tb te tc : TE} {t u c : TT} {ts tu : TS} {g : TG} {x y v : V} {vs : List V} {tr : TA} {a b : Option V} {r : L2.St}
theorem seq (h : ts { D with nx := tu D } σ H) : tSeq ts tu D σ H := h
theorem next (h : D.nx σ H) : tNext D σ H := h
theorem brk (h : D.bk σ H) : tBreak D σ H := h
theorem cont (h : D.ct σ H) : tCont D σ H := h
theorem asg (h : te σ H fun x H1 => g x σ H1 D.nx) : tAsg te g D σ H := h
theorem ret (h : te σ H D.rt) : tRet te D σ H := h
theorem retN (h : D.rt .non H) : tRetN D σ H := h
theorem drop (h : te σ H fun _ H1 => D.nx σ H1) : tDrop te D σ H := h
theorem ifs (h : c σ H fun b H1 => if b = true then ts D σ H1 else tu D σ H1) : tIfS c ts tu D σ H := h
theorem ife (h : t σ H fun b H1 => if b = true then ta σ H1 Q else tb σ H1 Q) : tIf t ta tb σ H Q := h
theorem test {Q : Bool → Hp → Prop} (h : te σ H fun x H1 => ∃ k, x = .bl k ∧ Q k H1) : tTest te σ H Q := h
theorem tb_ {Q : Bool → Hp → Prop} (h : te σ H fun x H1 => ∃ k, x = .bl k ∧ Q k H1) : tB te σ H Q := h
theorem bl {b : Bool} {Q : Bool → Hp → Prop} (h : Q b H) : ∃ k, V.bl b = .bl k ∧ Q k H := ⟨b, rfl, h⟩
theorem bl2 {b : Bool} {P : Bool → Prop} (h : P b) : ∃ k, V.bl b = .bl k ∧ P k := ⟨b, rfl, h⟩
theorem and_ {Q : Bool → Hp → Prop} (h : t σ H fun c H1 => if c = true then u σ H1 Q else Q false H1) : tAnd t u σ H Q := h
theorem or_ {Q : Bool → Hp → Prop} (h : t σ H fun c H1 => if c = true then Q true H1 else u σ H1 Q) : tOr t u σ H Q := h
theorem not_ {Q : Bool → Hp → Prop} (h : t σ H fun c H1 => Q (!c) H1) : tNot t σ H Q := h
theorem andV (h : ta σ H fun x H1 => ∃ c, x = .bl c ∧ if c = true then tb σ H1 Q else Q (.bl false) H1) : tAndV ta tb σ H Q := h
theorem orV (h : ta σ H fun x H1 => ∃ c, x = .bl c ∧ if c = true then Q (.bl true) H1 else tb σ H1 Q) : tOrV ta tb σ H Q := h
theorem notV (h : ta σ H fun x H1 => ∃ c, x = .bl c ∧ Q (.bl (!c)) H1) : tNotV ta σ H Q := h
theorem op {r : R2} (h : ta σ H fun x H1 => tb σ H1 fun y H2 => r x y H2 Q) : tOp r ta tb σ H Q := h
theorem un {r : V → Hp → VK → Prop} (h : ta σ H fun x H1 => r x H1 Q) : tUn r ta σ H Q := h
theorem I0 {f : Int → Int → V} {i j : Int} (h : Q (f i j) H) : rI0 f (.int i) (.int j) H Q := ⟨i, j, rfl, rfl, h⟩
theorem I {C : Int → Int → Prop} {f : Int → Int → V} {i j : Int} (c : C i j) (h : Q (f i j) H) : rI C f (.int i) (.int j) H Q := ⟨i, j, rfl, rfl, c, h⟩
theorem U {f : Int → V} {i : Int} (h : Q (f i) H) : rU f (.int i) H Q := ⟨i, rfl, h⟩
theorem ip {f : Int → Int → Int} {i j : Int} (h : Q (.int (f i j)) H) : ipI f (.int i) (.int j) H Q := ⟨i, j, rfl, rfl, h⟩
theorem eq (s : scal x y = true) (h : Q (.bl (decide (x = y))) H) : rEq x y H Q := ⟨s, h⟩
theorem ne (s : scal x y = true) (h : Q (.bl (!decide (x = y))) H) : rNe x y H Q := ⟨s, h⟩
theorem c_ (h : Q v H) : tC v σ H Q := h
theorem nil {Q : List V → Hp → Prop} (h : Q [] H) : tNil σ H Q := h
theorem cons {Q : List V → Hp → Prop} (h : ta σ H fun x H1 => tr σ H1 fun xs H2 => Q (x :: xs) H2) : tCons ta tr σ H Q := h
theorem tup (h : tr σ H fun xs H1 => xs.length ≤ sizeLine ∧ ∀ p, H1 p = none → Q (.ref p) (upd H1 p (.tup xs))) : tTup tr σ H Q := h
theorem lst (h : tr σ H fun xs H1 => xs.length ≤ sizeLine ∧ ∀ p, H1 p = none → Q (.ref p) (upd H1 p (.lst xs))) : tLst tr σ H Q := h
theorem newT {xs : List V} (s : xs.length ≤ sizeLine) (h : ∀ p, H p = none → Q (.ref p) (upd H p (.tup xs))) : xs.length ≤ sizeLine ∧ ∀ p, H p = none → Q (.ref p) (upd H p (.tup xs)) := ⟨s, h⟩
theorem newL {xs : List V} (s : xs.length ≤ sizeLine) (h : ∀ p, H p = none → Q (.ref p) (upd H p (.lst xs))) : xs.length ≤ sizeLine ∧ ∀ p, H p = none → Q (.ref p) (upd H p (.lst xs)) := ⟨s, h⟩
theorem szA {xs : List V} {A : Prop} (s : xs.length ≤ sizeLine) (h : A) : xs.length ≤ sizeLine ∧ A := ⟨s, h⟩
theorem call {sp : Sp} {dvs : List V} {E : XK} (h : tr σ H fun vs H1 => sp (vs ++ dvs) H1 Q E) : tCall sp dvs E tr σ H Q := h
theorem cb {f : List V → Hp → VK → Prop} (h : tr σ H fun vs H1 => f vs H1 Q) : tCB f tr σ H Q := h
theorem bm {T : String} {f : V → List V → Hp → VK → Prop} (h : te σ H fun x H1 => tyV K T x H1 ∧ tr σ H1 fun xs H2 => f x xs H2 Q) : tBM K T f te tr σ H Q := h
theorem bm0 {T : String} {f : V → List V → Hp → VK → Prop} (h : te σ H fun x H1 => tyV K T x H1 ∧ f x [] H1 Q) : tBM0 K T f te σ H Q := h
theorem tyL {p : Addr} {xs : List V} {A : Prop} (s : H p = some (.lst xs)) (h : A) : tyV K "list" (.ref p) H ∧ A := ⟨.inl ⟨rfl, _, SqL.of s⟩, h⟩
theorem tyLq {p : Addr} {xs : List V} {A : Prop} (s : SqL K H p xs) (h : A) : tyV K "list" (.ref p) H ∧ A := ⟨.inl ⟨rfl, _, s⟩, h⟩
theorem tyS {z : Str} {A : Prop} (h : A) : tyV K "str" (.str z) H ∧ A := ⟨rfl, h⟩
theorem app {l : Addr} {xs : List V} (h : H l = some (.lst xs)) (s : xs.length < sizeLine) (q : Q .non (upd H l (.lst (xs ++ [y])))) : rAppend (.ref l) [y] H Q := ⟨l, xs, y, rfl, rfl, h, s, q⟩
theorem sl {f : V → Option Int → Option Int → Hp → VK → Prop} {tl th : TO} (h : te σ H fun x H1 => tl σ H1 fun l H2 => th σ H2 fun u H3 => f x l u H3 Q) : L2.tSl f te tl th σ H Q := h
theorem nopart {Q : Option Int → Hp → Prop} (h : Q none H) : tNoPart σ H Q := h
theorem part {Q : Option Int → Hp → Prop} (h : te σ H fun x H1 => ∃ i, x = .int i ∧ Q (some i) H1) : tPart te σ H Q := h
theorem int1 {i : Int} {P : Int → Prop} (h : P i) : ∃ j, V.int i = .int j ∧ P j := ⟨i, rfl, h⟩
theorem ints1 {i : Int} {P : Int → Prop} (h : P i) : ∃ j, [V.int i] = [.int j] ∧ P j := ⟨i, rfl, h⟩
theorem ints2 {i j : Int} {P : Int → Int → Prop} (h : P i j) : ∃ a b, [V.int i, V.int j] = [.int a, .int b] ∧ P a b := ⟨i, j, rfl, h⟩
theorem ixLq {p : Addr} {xs : List V} {i : Int} (h : SqL K H p xs) (e : atI xs i = some v) (q : Q v H) : rIxL K (.ref p) (.int i) H Q := ⟨p, xs, i, v, rfl, rfl, h, e, q⟩
theorem ixL {p : Addr} {xs : List V} {i : Int} (h : H p = some (.lst xs)) (e : atI xs i = some v) (q : Q v H) : rIxL K (.ref p) (.int i) H Q := ⟨p, xs, i, v, rfl, rfl, SqL.of h, e, q⟩
theorem ixT {p : Addr} {xs : List V} {i : Int} (h : H p = some (.tup xs)) (e : atI xs i = some v) (q : Q v H) : rIxT K (.ref p) (.int i) H Q := ⟨p, xs, i, v, rfl, rfl, SqT.of h, e, q⟩
theorem ixTq {p : Addr} {xs : List V} {i : Int} (h : SqT K H p xs) (e : atI xs i = some v) (q : Q v H) : rIxT K (.ref p) (.int i) H Q := ⟨p, xs, i, v, rfl, rfl, h, e, q⟩
theorem gtup {p : Addr} {xs : List V} {n : Nat} {f : TGs} {Q : L2.St → Hp → Prop} (h : H p = some (.tup xs)) (l : xs.length = n) (q : f xs σ H Q) : gTup K n f (.ref p) σ H Q := ⟨p, xs, rfl, SqT.of h, l, q⟩
theorem gtupq {p : Addr} {xs : List V} {n : Nat} {f : TGs} {Q : L2.St → Hp → Prop} (h : SqT K H p xs) (l : xs.length = n) (q : f xs σ H Q) : gTup K n f (.ref p) σ H Q := ⟨p, xs, rfl, h, l, q⟩
theorem yes {Q : Bool → Hp → Prop} (h : Q true H) : tYes σ H Q := h
theorem gcons {f : TGs} {Q : L2.St → Hp → Prop} (q : g v σ H fun σ' H' => f vs σ' H' Q) : gCons g f (v :: vs) σ H Q := ⟨v, vs, rfl, q⟩
theorem gnil {Q : L2.St → Hp → Prop} (q : Q σ H) : gNil [] σ H Q := ⟨rfl, q⟩
theorem sub {to ti : TE} {f : TSet} {Q : L2.St → Hp → Prop} (h : to σ H fun o H1 => ti σ H1 fun i H2 => f o i v H2 fun H3 => Q σ H3) : gSub to ti f v σ H Q := h
theorem setL {l : Addr} {xs : List V} {j : Nat} {i : Int} {Q : Hp → Prop} (h : H l = some (.lst xs)) (e : ixN xs.length i = some j) (q : Q (upd H l (.lst (xs.set j v)))) : rSetL (.ref l) (.int i) v H Q := ⟨l, xs, i, j, rfl, rfl, h, e, q⟩
theorem isN (h : ta σ H fun x H1 => Q (.bl (decide (x = .non))) H1) : tIsN ta σ H Q := h
theorem rf {α : Type} {a : α} {A : Prop} (h : A) : a = a ∧ A := ⟨rfl, h⟩
theorem sz {n : Nat} (h : n ≤ 100000) : n ≤ sizeLine := Nat.le_trans h (by decide)
theorem szl {n : Nat} (h : n < 100000) : n < sizeLine := Nat.lt_of_lt_of_le h (by decide)
theorem chain {r r' : R2} (h : ta σ H fun x H1 => tb σ H1 fun y H2 => r x y H2 fun z H3 => ∃ k, z = .bl k ∧ if k = true then tc σ H3 fun w H4 => r' y w H4 Q else Q (.bl false) H3) : tChain r r' ta tb tc σ H Q := h

theorem v0 (h : Q v H) : tVar 0 (some v :: r) H Q := ⟨v, rfl, h⟩
theorem n0 {Q : L2.St → Hp → Prop} (h : Q (some v :: r) H) : gName 0 v (a :: r) H Q := h
theorem g0 {ti : TIp} (h : te (some x :: r) H fun y H1 => ti x y H1 fun z H2 => D.nx (some z :: r) H2) : tAug 0 te ti D (some x :: r) H := ⟨x, rfl, h⟩
theorem v1 {a0 : Option V} (h : Q v H) : tVar 1 (a0 :: some v :: r) H Q := ⟨v, rfl, h⟩
theorem n1 {a0 : Option V} {Q : L2.St → Hp → Prop} (h : Q (a0 :: some v :: r) H) : gName 1 v (a0 :: a :: r) H Q := h
theorem g1 {a0 : Option V} {ti : TIp} (h : te (a0 :: some x :: r) H fun y H1 => ti x y H1 fun z H2 => D.nx (a0 :: some z :: r) H2) : tAug 1 te ti D (a0 :: some x :: r) H := ⟨x, rfl, h⟩
theorem v2 {a0 a1 : Option V} (h : Q v H) : tVar 2 (a0 :: a1 :: some v :: r) H Q := ⟨v, rfl, h⟩
theorem n2 {a0 a1 : Option V} {Q : L2.St → Hp → Prop} (h : Q (a0 :: a1 :: some v :: r) H) : gName 2 v (a0 :: a1 :: a :: r) H Q := h
theorem g2 {a0 a1 : Option V} {ti : TIp} (h : te (a0 :: a1 :: some x :: r) H fun y H1 => ti x y H1 fun z H2 => D.nx (a0 :: a1 :: some z :: r) H2) : tAug 2 te ti D (a0 :: a1 :: some x :: r) H := ⟨x, rfl, h⟩
theorem v3 {a0 a1 a2 : Option V} (h : Q v H) : tVar 3 (a0 :: a1 :: a2 :: some v :: r) H Q := ⟨v, rfl, h⟩
theorem n3 {a0 a1 a2 : Option V} {Q : L2.St → Hp → Prop} (h : Q (a0 :: a1 :: a2 :: some v :: r) H) : gName 3 v (a0 :: a1 :: a2 :: a :: r) H Q := h
theorem g3 {a0 a1 a2 : Option V} {ti : TIp} (h : te (a0 :: a1 :: a2 :: some x :: r) H fun y H1 => ti x y H1 fun z H2 => D.nx (a0 :: a1 :: a2 :: some z :: r) H2) : tAug 3 te ti D (a0 :: a1 :: a2 :: some x :: r) H := ⟨x, rfl, h⟩
theorem v4 {a0 a1 a2 a3 : Option V} (h : Q v H) : tVar 4 (a0 :: a1 :: a2 :: a3 :: some v :: r) H Q := ⟨v, rfl, h⟩
theorem n4 {a0 a1 a2 a3 : Option V} {Q : L2.St → Hp → Prop} (h : Q (a0 :: a1 :: a2 :: a3 :: some v :: r) H) : gName 4 v (a0 :: a1 :: a2 :: a3 :: a :: r) H Q := h
theorem g4 {a0 a1 a2 a3 : Option V} {ti : TIp} (h : te (a0 :: a1 :: a2 :: a3 :: some x :: r) H fun y H1 => ti x y H1 fun z H2 => D.nx (a0 :: a1 :: a2 :: a3 :: some z :: r) H2) : tAug 4 te ti D (a0 :: a1 :: a2 :: a3 :: some x :: r) H := ⟨x, rfl, h⟩
theorem v5 {a0 a1 a2 a3 a4 : Option V} (h : Q v H) : tVar 5 (a0 :: a1 :: a2 :: a3 :: a4 :: some v :: r) H Q := ⟨v, rfl, h⟩
theorem n5 {a0 a1 a2 a3 a4 : Option V} {Q : L2.St → Hp → Prop} (h : Q (a0 :: a1 :: a2 :: a3 :: a4 :: some v :: r) H) : gName 5 v (a0 :: a1 :: a2 :: a3 :: a4 :: a :: r) H Q := h
theorem g5 {a0 a1 a2 a3 a4 : Option V} {ti : TIp} (h : te (a0 :: a1 :: a2 :: a3 :: a4 :: some x :: r) H fun y H1 => ti x y H1 fun z H2 => D.nx (a0 :: a1 :: a2 :: a3 :: a4 :: some z :: r) H2) : tAug 5 te ti D (a0 :: a1 :: a2 :: a3 :: a4 :: some x :: r) H := ⟨x, rfl, h⟩
theorem v6 {a0 a1 a2 a3 a4 a5 : Option V} (h : Q v H) : tVar 6 (a0 :: a1 :: a2 :: a3 :: a4 :: a5 :: some v :: r) H Q := ⟨v, rfl, h⟩
theorem n6 {a0 a1 a2 a3 a4 a5 : Option V} {Q : L2.St → Hp → Prop} (h : Q (a0 :: a1 :: a2 :: a3 :: a4 :: a5 :: some v :: r) H) : gName 6 v (a0 :: a1 :: a2 :: a3 :: a4 :: a5 :: a :: r) H Q := h
theorem g6 {a0 a1 a2 a3 a4 a5 : Option V} {ti : TIp} (h : te (a0 :: a1 :: a2 :: a3 :: a4 :: a5 :: some x :: r) H fun y H1 => ti x y H1 fun z H2 => D.nx (a0 :: a1 :: a2 :: a3 :: a4 :: a5 :: some z :: r) H2) : tAug 6 te ti D (a0 :: a1 :: a2 :: a3 :: a4 :: a5 :: some x :: r) H := ⟨x, rfl, h⟩
theorem v7 {a0 a1 a2 a3 a4 a5 a6 : Option V} (h : Q v H) : tVar 7 (a0 :: a1 :: a2 :: a3 :: a4 :: a5 :: a6 :: some v :: r) H Q := ⟨v, rfl, h⟩
theorem n7 {a0 a1 a2 a3 a4 a5 a6 : Option V} {Q : L2.St → Hp → Prop} (h : Q (a0 :: a1 :: a2 :: a3 :: a4 :: a5 :: a6 :: some v :: r) H) : gName 7 v (a0 :: a1 :: a2 :: a3 :: a4 :: a5 :: a6 :: a :: r) H Q := h
theorem g7 {a0 a1 a2 a3 a4 a5 a6 : Option V} {ti : TIp} (h : te (a0 :: a1 :: a2 :: a3 :: a4 :: a5 :: a6 :: some x :: r) H fun y H1 => ti x y H1 fun z H2 => D.nx (a0 :: a1 :: a2 :: a3 :: a4 :: a5 :: a6 :: some z :: r) H2) : tAug 7 te ti D (a0 :: a1 :: a2 :: a3 :: a4 :: a5 :: a6 :: some x :: r) H := ⟨x, rfl, h⟩
theorem v8 {a0 a1 a2 a3 a4 a5 a6 a7 : Option V} (h : Q v H) : tVar 8 (a0 :: a1 :: a2 :: a3 :: a4 :: a5 :: a6 :: a7 :: some v :: r) H Q := ⟨v, rfl, h⟩
theorem n8 {a0 a1 a2 a3 a4 a5 a6 a7 : Option V} {Q : L2.St → Hp → Prop} (h : Q (a0 :: a1 :: a2 :: a3 :: a4 :: a5 :: a6 :: a7 :: some v :: r) H) : gName 8 v (a0 :: a1 :: a2 :: a3 :: a4 :: a5 :: a6 :: a7 :: a :: r) H Q := h
theorem g8 {a0 a1 a2 a3 a4 a5 a6 a7 : Option V} {ti : TIp} (h : te (a0 :: a1 :: a2 :: a3 :: a4 :: a5 :: a6 :: a7 :: some x :: r) H fun y H1 => ti x y H1 fun z H2 => D.nx (a0 :: a1 :: a2 :: a3 :: a4 :: a5 :: a6 :: a7 :: some z :: r) H2) : tAug 8 te ti D (a0 :: a1 :: a2 :: a3 :: a4 :: a5 :: a6 :: a7 :: some x :: r) H := ⟨x, rfl, h⟩
theorem v9 {a0 a1 a2 a3 a4 a5 a6 a7 a8 : Option V} (h : Q v H) : tVar 9 (a0 :: a1 :: a2 :: a3 :: a4 :: a5 :: a6 :: a7 :: a8 :: some v :: r) H Q := ⟨v, rfl, h⟩
theorem n9 {a0 a1 a2 a3 a4 a5 a6 a7 a8 : Option V} {Q : L2.St → Hp → Prop} (h : Q (a0 :: a1 :: a2 :: a3 :: a4 :: a5 :: a6 :: a7 :: a8 :: some v :: r) H) : gName 9 v (a0 :: a1 :: a2 :: a3 :: a4 :: a5 :: a6 :: a7 :: a8 :: a :: r) H Q := h
theorem g9 {a0 a1 a2 a3 a4 a5 a6 a7 a8 : Option V} {ti : TIp} (h : te (a0 :: a1 :: a2 :: a3 :: a4 :: a5 :: a6 :: a7 :: a8 :: some x :: r) H fun y H1 => ti x y H1 fun z H2 => D.nx (a0 :: a1 :: a2 :: a3 :: a4 :: a5 :: a6 :: a7 :: a8 :: some z :: r) H2) : tAug 9 te ti D (a0 :: a1 :: a2 :: a3 :: a4 :: a5 :: a6 :: a7 :: a8 :: some x :: r) H := ⟨x, rfl, h⟩
theorem v10 {a0 a1 a2 a3 a4 a5 a6 a7 a8 a9 : Option V} (h : Q v H) : tVar 10 (a0 :: a1 :: a2 :: a3 :: a4 :: a5 :: a6 :: a7 :: a8 :: a9 :: some v :: r) H Q := ⟨v, rfl, h⟩
theorem n10 {a0 a1 a2 a3 a4 a5 a6 a7 a8 a9 : Option V} {Q : L2.St → Hp → Prop} (h : Q (a0 :: a1 :: a2 :: a3 :: a4 :: a5 :: a6 :: a7 :: a8 :: a9 :: some v :: r) H) : gName 10 v (a0 :: a1 :: a2 :: a3 :: a4 :: a5 :: a6 :: a7 :: a8 :: a9 :: a :: r) H Q := h
theorem g10 {a0 a1 a2 a3 a4 a5 a6 a7 a8 a9 : Option V} {ti : TIp} (h : te (a0 :: a1 :: a2 :: a3 :: a4 :: a5 :: a6 :: a7 :: a8 :: a9 :: some x :: r) H fun y H1 => ti x y H1 fun z H2 => D.nx (a0 :: a1 :: a2 :: a3 :: a4 :: a5 :: a6 :: a7 :: a8 :: a9 :: some z :: r) H2) : tAug 10 te ti D (a0 :: a1 :: a2 :: a3 :: a4 :: a5 :: a6 :: a7 :: a8 :: a9 :: some x :: r) H := ⟨x, rfl, h⟩
theorem v11 {a0 a1 a2 a3 a4 a5 a6 a7 a8 a9 a10 : Option V} (h : Q v H) : tVar 11 (a0 :: a1 :: a2 :: a3 :: a4 :: a5 :: a6 :: a7 :: a8 :: a9 :: a10 :: some v :: r) H Q := ⟨v, rfl, h⟩
theorem n11 {a0 a1 a2 a3 a4 a5 a6 a7 a8 a9 a10 : Option V} {Q : L2.St → Hp → Prop} (h : Q (a0 :: a1 :: a2 :: a3 :: a4 :: a5 :: a6 :: a7 :: a8 :: a9 :: a10 :: some v :: r) H) : gName 11 v (a0 :: a1 :: a2 :: a3 :: a4 :: a5 :: a6 :: a7 :: a8 :: a9 :: a10 :: a :: r) H Q := h
theorem g11 {a0 a1 a2 a3 a4 a5 a6 a7 a8 a9 a10 : Option V} {ti : TIp} (h : te (a0 :: a1 :: a2 :: a3 :: a4 :: a5 :: a6 :: a7 :: a8 :: a9 :: a10 :: some x :: r) H fun y H1 => ti x y H1 fun z H2 => D.nx (a0 :: a1 :: a2 :: a3 :: a4 :: a5 :: a6 :: a7 :: a8 :: a9 :: a10 :: some z :: r) H2) : tAug 11 te ti D (a0 :: a1 :: a2 :: a3 :: a4 :: a5 :: a6 :: a7 :: a8 :: a9 :: a10 :: some x :: r) H := ⟨x, rfl, h⟩
theorem v12 {a0 a1 a2 a3 a4 a5 a6 a7 a8 a9 a10 a11 : Option V} (h : Q v H) : tVar 12 (a0 :: a1 :: a2 :: a3 :: a4 :: a5 :: a6 :: a7 :: a8 :: a9 :: a10 :: a11 :: some v :: r) H Q := ⟨v, rfl, h⟩
theorem n12 {a0 a1 a2 a3 a4 a5 a6 a7 a8 a9 a10 a11 : Option V} {Q : L2.St → Hp → Prop} (h : Q (a0 :: a1 :: a2 :: a3 :: a4 :: a5 :: a6 :: a7 :: a8 :: a9 :: a10 :: a11 :: some v :: r) H) : gName 12 v (a0 :: a1 :: a2 :: a3 :: a4 :: a5 :: a6 :: a7 :: a8 :: a9 :: a10 :: a11 :: a :: r) H Q := h
theorem g12 {a0 a1 a2 a3 a4 a5 a6 a7 a8 a9 a10 a11 : Option V} {ti : TIp} (h : te (a0 :: a1 :: a2 :: a3 :: a4 :: a5 :: a6 :: a7 :: a8 :: a9 :: a10 :: a11 :: some x :: r) H fun y H1 => ti x y H1 fun z H2 => D.nx (a0 :: a1 :: a2 :: a3 :: a4 :: a5 :: a6 :: a7 :: a8 :: a9 :: a10 :: a11 :: some z :: r) H2) : tAug 12 te ti D (a0 :: a1 :: a2 :: a3 :: a4 :: a5 :: a6 :: a7 :: a8 :: a9 :: a10 :: a11 :: some x :: r) H := ⟨x, rfl, h⟩
theorem v13 {a0 a1 a2 a3 a4 a5 a6 a7 a8 a9 a10 a11 a12 : Option V} (h : Q v H) : tVar 13 (a0 :: a1 :: a2 :: a3 :: a4 :: a5 :: a6 :: a7 :: a8 :: a9 :: a10 :: a11 :: a12 :: some v :: r) H Q := ⟨v, rfl, h⟩
theorem n13 {a0 a1 a2 a3 a4 a5 a6 a7 a8 a9 a10 a11 a12 : Option V} {Q : L2.St → Hp → Prop} (h : Q (a0 :: a1 :: a2 :: a3 :: a4 :: a5 :: a6 :: a7 :: a8 :: a9 :: a10 :: a11 :: a12 :: some v :: r) H) : gName 13 v (a0 :: a1 :: a2 :: a3 :: a4 :: a5 :: a6 :: a7 :: a8 :: a9 :: a10 :: a11 :: a12 :: a :: r) H Q := h
theorem g13 {a0 a1 a2 a3 a4 a5 a6 a7 a8 a9 a10 a11 a12 : Option V} {ti : TIp} (h : te (a0 :: a1 :: a2 :: a3 :: a4 :: a5 :: a6 :: a7 :: a8 :: a9 :: a10 :: a11 :: a12 :: some x :: r) H fun y H1 => ti x y H1 fun z H2 => D.nx (a0 :: a1 :: a2 :: a3 :: a4 :: a5 :: a6 :: a7 :: a8 :: a9 :: a10 :: a11 :: a12 :: some z :: r) H2) : tAug 13 te ti D (a0 :: a1 :: a2 :: a3 :: a4 :: a5 :: a6 :: a7 :: a8 :: a9 :: a10 :: a11 :: a12 :: some x :: r) H := ⟨x, rfl, h⟩
theorem v14 {a0 a1 a2 a3 a4 a5 a6 a7 a8 a9 a10 a11 a12 a13 : Option V} (h : Q v H) : tVar 14 (a0 :: a1 :: a2 :: a3 :: a4 :: a5 :: a6 :: a7 :: a8 :: a9 :: a10 :: a11 :: a12 :: a13 :: some v :: r) H Q := ⟨v, rfl, h⟩
theorem n14 {a0 a1 a2 a3 a4 a5 a6 a7 a8 a9 a10 a11 a12 a13 : Option V} {Q : L2.St → Hp → Prop} (h : Q (a0 :: a1 :: a2 :: a3 :: a4 :: a5 :: a6 :: a7 :: a8 :: a9 :: a10 :: a11 :: a12 :: a13 :: some v :: r) H) : gName 14 v (a0 :: a1 :: a2 :: a3 :: a4 :: a5 :: a6 :: a7 :: a8 :: a9 :: a10 :: a11 :: a12 :: a13 :: a :: r) H Q := h
theorem g14 {a0 a1 a2 a3 a4 a5 a6 a7 a8 a9 a10 a11 a12 a13 : Option V} {ti : TIp} (h : te (a0 :: a1 :: a2 :: a3 :: a4 :: a5 :: a6 :: a7 :: a8 :: a9 :: a10 :: a11 :: a12 :: a13 :: some x :: r) H fun y H1 => ti x y H1 fun z H2 => D.nx (a0 :: a1 :: a2 :: a3 :: a4 :: a5 :: a6 :: a7 :: a8 :: a9 :: a10 :: a11 :: a12 :: a13 :: some z :: r) H2) : tAug 14 te ti D (a0 :: a1 :: a2 :: a3 :: a4 :: a5 :: a6 :: a7 :: a8 :: a9 :: a10 :: a11 :: a12 :: a13 :: some x :: r) H := ⟨x, rfl, h⟩
theorem v15 {a0 a1 a2 a3 a4 a5 a6 a7 a8 a9 a10 a11 a12 a13 a14 : Option V} (h : Q v H) : tVar 15 (a0 :: a1 :: a2 :: a3 :: a4 :: a5 :: a6 :: a7 :: a8 :: a9 :: a10 :: a11 :: a12 :: a13 :: a14 :: some v :: r) H Q := ⟨v, rfl, h⟩
theorem n15 {a0 a1 a2 a3 a4 a5 a6 a7 a8 a9 a10 a11 a12 a13 a14 : Option V} {Q : L2.St → Hp → Prop} (h : Q (a0 :: a1 :: a2 :: a3 :: a4 :: a5 :: a6 :: a7 :: a8 :: a9 :: a10 :: a11 :: a12 :: a13 :: a14 :: some v :: r) H) : gName 15 v (a0 :: a1 :: a2 :: a3 :: a4 :: a5 :: a6 :: a7 :: a8 :: a9 :: a10 :: a11 :: a12 :: a13 :: a14 :: a :: r) H Q := h
theorem g15 {a0 a1 a2 a3 a4 a5 a6 a7 a8 a9 a10 a11 a12 a13 a14 : Option V} {ti : TIp} (h : te (a0 :: a1 :: a2 :: a3 :: a4 :: a5 :: a6 :: a7 :: a8 :: a9 :: a10 :: a11 :: a12 :: a13 :: a14 :: some x :: r) H fun y H1 => ti x y H1 fun z H2 => D.nx (a0 :: a1 :: a2 :: a3 :: a4 :: a5 :: a6 :: a7 :: a8 :: a9 :: a10 :: a11 :: a12 :: a13 :: a14 :: some z :: r) H2) : tAug 15 te ti D (a0 :: a1 :: a2 :: a3 :: a4 :: a5 :: a6 :: a7 :: a8 :: a9 :: a10 :: a11 :: a12 :: a13 :: a14 :: some x :: r) H := ⟨x, rfl, h⟩
theorem room65 {k : Nat} {A : Around} (r : Room k A) : A.units + 65 < cLine := by
  have := r.un
  omega
/-! ### iterators -/
def lcRest (g : TG) (tt : TT) (te : TE) (vs : List Nat) (σ : L2.St) (Q : VK) (J : It) (H1 : Hp) : Prop := ∀ D, H1 D = none → ∃ W : Nat → Nat → Hp → Prop, (∃ m, W 0 m (upd H1 D (.lst []))) ∧ ∀ i m H, W i m H →
  (J.stop i H ∧ Q (.ref D) H) ∨ (J.go i H ∧ ∃ Nx : Hp → Prop, (∀ H', Nx H' → ∃ m', m' < m ∧ W (i + 1) m' H') ∧ ∀ x H', J.yld i H x H' → g x (wipe σ vs) H' fun σ2 H2 => wipe σ2 vs = wipe σ vs ∧ tt σ2 H2 fun b H3 =>
    if b = true then te σ2 H3 fun y H4 => ∃ acc, H4 D = some (.lst acc) ∧ acc.length < sizeLine ∧ Nx (upd H4 D (.lst (acc ++ [y]))) else Nx H3)
theorem lc {wi : TI} {tt : TT} {ws : List Nat} (h : wi σ H (lcRest g tt te ws σ Q)) : tLc wi g tt te ws σ H Q := h
def forRest (g : TG) (tb : TS) (D : Ends) (σ0 : L2.St) (J : It) (H1 : Hp) : Prop := ∃ W : Nat → Nat → L2.St → Hp → Prop, (∃ m, W 0 m σ0 H1) ∧ ∀ i m σ H, W i m σ H →
  (J.stop i H ∧ D.nx σ H) ∨ (J.go i H ∧ ∃ N : L2.St → Hp → Prop, (∀ σ' H', N σ' H' → ∃ m', m' < m ∧ W (i + 1) m' σ' H') ∧ ∀ x H', J.yld i H x H' → g x σ H' fun σ2 H2 => tb { D with nx := N, ct := N, bk := D.nx } σ2 H2)
theorem for_ {wi : TI} {tb : TS} (h : wi σ H (forRest g tb D σ)) : tFor wi g tb D σ H := h
variable {R : It → Hp → Prop}
theorem ilist (h : te σ H fun x H1 => ∃ a, x = .ref a ∧ (∃ xs, SqL K H1 a xs) ∧ R (Itl K a) H1) : iList K te σ H R := h
theorem itup (h : te σ H fun x H1 => ∃ a, x = .ref a ∧ (∃ xs, SqT K H1 a xs) ∧ R (Itt K a) H1) : iTup K te σ H R := h
theorem irng1 (h : tr σ H fun vs H1 => ∃ j : Int, vs = [.int j] ∧ -(2 ^ 62) ≤ j ∧ j < 2 ^ 62 ∧ R (Itr 0 j.toNat) H1) : iRng1 tr σ H R := h
theorem irng2 (h : tr σ H fun vs H1 => ∃ i j : Int, vs = [.int i, .int j] ∧ (-(2 ^ 62) ≤ i ∧ i < 2 ^ 62 ∧ -(2 ^ 62) ≤ j ∧ j < 2 ^ 62) ∧ R (Itr i (j - i).toNat) H1) : iRng2 tr σ H R := h
theorem ienum (h : tr σ H fun vs H1 => ∃ a xs, vs = [.ref a] ∧ SqL K H1 a xs ∧ R (Ite K a) H1) : iEnum K tr σ H R := h
theorem istr (h : te σ H fun v H1 => ∃ x, v = .str x ∧ R (Its x) H1) : iStr te σ H R := h
theorem refA {a : Addr} {P : Addr → Prop} (h : P a) : ∃ b, V.ref a = .ref b ∧ P b := ⟨a, rfl, h⟩
theorem strA {a : Str} {P : Str → Prop} (h : P a) : ∃ b, V.str a = .str b ∧ P b := ⟨a, rfl, h⟩
theorem sqA {l : Addr} {xs : List V} {A : Prop} (h : H l = some (.lst xs)) (q : A) : (∃ xs, SqL K H l xs) ∧ A := ⟨⟨_, SqL.of h⟩, q⟩
theorem sqAq {l : Addr} {xs : List V} {A : Prop} (h : SqL K H l xs) (q : A) : (∃ xs, SqL K H l xs) ∧ A := ⟨⟨_, h⟩, q⟩
theorem stA {l : Addr} {xs : List V} {A : Prop} (h : H l = some (.tup xs)) (q : A) : (∃ xs, SqT K H l xs) ∧ A := ⟨⟨_, SqT.of h⟩, q⟩
theorem stAq {l : Addr} {xs : List V} {A : Prop} (h : SqT K H l xs) (q : A) : (∃ xs, SqT K H l xs) ∧ A := ⟨⟨_, h⟩, q⟩
theorem enA {l : Addr} {xs : List V} {P : Addr → Prop} (h : H l = some (.lst xs)) (q : P l) : ∃ a ys, [V.ref l] = [.ref a] ∧ SqL K H a ys ∧ P a := ⟨l, xs, rfl, SqL.of h, q⟩
theorem enAq {l : Addr} {xs : List V} {P : Addr → Prop} (h : SqL K H l xs) (q : P l) : ∃ a ys, [V.ref l] = [.ref a] ∧ SqL K H a ys ∧ P a := ⟨l, xs, rfl, h, q⟩
theorem lenL {l : Addr} {xs : List V} {P : List V → Prop} (h : H l = some (.lst xs)) (q : P xs) : ∃ p ys, [V.ref l] = [.ref p] ∧ (SqL K H p ys ∨ SqT K H p ys) ∧ P ys := ⟨l, xs, rfl, .inl (SqL.of h), q⟩
theorem lenLq {l : Addr} {xs : List V} {P : List V → Prop} (h : SqL K H l xs) (q : P xs) : ∃ p ys, [V.ref l] = [.ref p] ∧ (SqL K H p ys ∨ SqT K H p ys) ∧ P ys := ⟨l, xs, rfl, .inl h, q⟩
theorem lenTq {l : Addr} {xs : List V} {P : List V → Prop} (h : SqT K H l xs) (q : P xs) : ∃ p ys, [V.ref l] = [.ref p] ∧ (SqL K H p ys ∨ SqT K H p ys) ∧ P ys := ⟨l, xs, rfl, .inr h, q⟩
theorem lenT {l : Addr} {xs : List V} {P : List V → Prop} (h : H l = some (.tup xs)) (q : P xs) : ∃ p ys, [V.ref l] = [.ref p] ∧ (SqL K H p ys ∨ SqT K H p ys) ∧ P ys := ⟨l, xs, rfl, .inr (SqT.of h), q⟩
/-! ### comprehensions: each element by a relation -/
def But (D : Addr) (H H' : Hp) : Prop := ∀ b o, b ≠ D → H b = some o → H' b = some o
theorem But.refl {D : Addr} : But D H H := fun _ _ _ h => h
theorem But.trans {D : Addr} {H H1 H2 : Hp} (a : But D H H1) (b : But D H1 H2) : But D H H2 := fun x o n h => b x o n (a x o n h)
theorem But.same {D : Addr} {H H1 : Hp} (a : Same H H1) : But D H H1 := fun x o _ h => a x o h
theorem But.at_ {D : Addr} {o : HO} : But D H (upd H D o) := fun x u n h => by rw [upd_ne n]; exact h
theorem But.to {D : Addr} {H H1 : Hp} (a : But D H H1) (n : H D = none) : Same H H1 := fun x o h => a x o (fun z => by rw [z, n] at h; cases h) h
theorem lc_rel {J : It} {n : Nat} {G : Hp → Prop} {Y : Nat → Hp → V → Hp → Prop} (w : Walk J n G Y) {g : TG} {te : TE} {vs : List Nat} {σ : L2.St} {H1 : Hp} {D : Addr} {Qd : Hp → Prop} (R : Nat → V → Hp → Prop)
    (nD : H1 D = none) (hn : n ≤ 100000) (mono : ∀ i v H H', R i v H → But D H H' → R i v H') (hG : ∀ H, But D H1 H → G H)
    (hs : ∀ i x H H' (Kt : VK), i < n → But D H1 H → (∃ xs, H D = some (.lst xs)) → Y i H x H' → (∀ y H4, R i y H4 → Same H H4 → Kt y H4) → g x (wipe σ vs) H' fun σ2 H2 => wipe σ2 vs = wipe σ vs ∧ te σ2 H2 Kt)
    (hd : ∀ H ys, ys.length = n → (∀ i v, ys[i]? = some v → R i v H) → Same H1 H → H D = some (.lst ys) → Qd H) :
    ∃ W : Nat → Nat → Hp → Prop, (∃ m, W 0 m (upd H1 D (.lst []))) ∧ ∀ i m H, W i m H →
      (J.stop i H ∧ Qd H) ∨ (J.go i H ∧ ∃ Nx : Hp → Prop, (∀ H', Nx H' → ∃ m', m' < m ∧ W (i + 1) m' H') ∧ ∀ x H', J.yld i H x H' → g x (wipe σ vs) H' fun σ2 H2 => wipe σ2 vs = wipe σ vs ∧ tYes σ2 H2 fun b H3 =>
        if b = true then te σ2 H3 fun y H4 => ∃ acc, H4 D = some (.lst acc) ∧ acc.length < sizeLine ∧ Nx (upd H4 D (.lst (acc ++ [y]))) else Nx H3) := by
  refine lc_it w (fun i H => ∃ ys, ys.length = i ∧ (∀ i v, ys[i]? = some v → R i v H) ∧ But D H1 H ∧ H D = some (.lst ys)) ⟨[], rfl, fun i v h => by simp at h, But.at_, upd_same⟩ (fun i H _ h => ?_) (fun i x H H' hi h y => ?_) (fun H h => ?_)
  · obtain ⟨_, _, _, b, _⟩ := h
    exact hG H b
  · obtain ⟨ys, hl, hr, b, hD⟩ := h
    refine hs i x H H' _ hi b ⟨_, hD⟩ y fun v H4 r sm => ?_
    refine ⟨ys, sm _ _ hD, szl (by omega), ys ++ [v], by simp [hl], fun j u hj => ?_, (b.trans (But.same sm)).trans But.at_, upd_same⟩
    by_cases hj2 : j < ys.length
    · rw [List.getElem?_append_left hj2] at hj
      exact mono _ _ _ _ (hr j u hj) ((But.same sm).trans But.at_)
    · have e : j = ys.length := by
        have := (List.getElem?_eq_some_iff.mp hj).1
        simp at this; omega
      subst e
      rw [List.getElem?_append_right (Nat.le_refl _)] at hj
      simp at hj
      subst hj
      rw [hl]
      exact mono _ _ _ _ r But.at_
  · obtain ⟨ys, hl, hr, b, hD⟩ := h
    exact hd H ys hl hr (b.to nD) hD
/-! ### tests, ints in lists -/
theorem ifD {p : Prop} [Decidable p] {A B : Prop} (h1 : p → A) (h2 : ¬ p → B) : if decide p = true then A else B := by
  by_cases h : p
  · rw [decide_eq_true h, if_pos rfl]; exact h1 h
  · rw [decide_eq_false h, if_neg Bool.false_ne_true]; exact h2 h
theorem ifN {p : Prop} [Decidable p] {A B : Prop} (h1 : ¬ p → A) (h2 : p → B) : if (!decide p) = true then A else B := by
  by_cases h : p
  · rw [decide_eq_true h, if_neg (by decide)]; exact h2 h
  · rw [decide_eq_false h, if_pos (by decide)]; exact h1 h
theorem ifT {A B : Prop} (h : A) : if true = true then A else B := by rw [if_pos rfl]; exact h
theorem ifF {A B : Prop} (h : B) : if false = true then A else B := by rw [if_neg Bool.false_ne_true]; exact h
theorem ifB {b : Bool} {A B : Prop} (h1 : b = true → A) (h2 : b = false → B) : if b = true then A else B := by
  cases b with
  | true => exact ifT (h1 rfl)
  | false => exact ifF (h2 rfl)
theorem ifNB {b : Bool} {A B : Prop} (h1 : b = false → A) (h2 : b = true → B) : if (!b) = true then A else B := by
  cases b with
  | true => exact ifF (h2 rfl)
  | false => exact ifT (h1 rfl)
theorem flat_ints (ns : List Int) : (ns.map V.int).all flatV = true := by
  rw [List.all_eq_true]
  intro x hx
  obtain ⟨i, _, rfl⟩ := List.mem_map.mp hx
  rfl
theorem flat_strs (ns : List Str) : (ns.map V.str).all flatV = true := by
  rw [List.all_eq_true]
  intro x hx
  obtain ⟨i, _, rfl⟩ := List.mem_map.mp hx
  rfl
theorem eqV_ints (a b : Int) : eqV (.int a) (.int b) = decide (a = b) := by
  by_cases h : a = b <;> simp [eqV, h]
theorem inV_ints (x : Int) (r : List Int) : inV (.int x) (r.map V.int) = decide (x ∈ r) := by
  unfold inV
  rw [List.any_map]
  by_cases h : x ∈ r
  · rw [decide_eq_true h, List.any_eq_true]
    exact ⟨x, h, beq_self_eq_true x⟩
  · rw [decide_eq_false h, List.any_eq_false]
    intro y hy e
    have e2 : (y == x) = true := e
    exact h (by rw [← eq_of_beq e2]; exact hy)
theorem first_at (ns : List Int) (n : Int) (h : n ∈ ns) : ∃ j : Nat, ns[j]? = some n ∧ ∀ i, i < j → ns[i]? ≠ some n := by
  induction ns with
  | nil => simp at h
  | cons a r ih =>
    by_cases e : a = n
    · exact ⟨0, by simp [e], fun i hi => absurd hi (Nat.not_lt_zero _)⟩
    · obtain ⟨j, h1, h2⟩ := ih ((List.mem_cons.mp h).resolve_left fun z => e z.symm)
      refine ⟨j + 1, by simpa using h1, fun i hi => ?_⟩
      cases i with
      | zero => simp [e]
      | succ i => simpa using h2 i (by omega)
theorem inI {p : Addr} {ns : List Int} {n : Int} (h : H p = some (.lst (ns.map V.int))) (q : Q (.bl (decide (n ∈ ns))) H) : rIn K false (.int n) (.ref p) H Q :=
  ⟨p, _, rfl, .inl (SqL.of h), rfl, flat_ints _, by rw [inV_ints]; exact q⟩
theorem ninI {p : Addr} {ns : List Int} {n : Int} (h : H p = some (.lst (ns.map V.int))) (q : Q (.bl (!decide (n ∈ ns))) H) : rIn K true (.int n) (.ref p) H Q :=
  ⟨p, _, rfl, .inl (SqL.of h), rfl, flat_ints _, by rw [inV_ints]; exact q⟩
theorem idxI {a : Addr} {ns : List Int} {n : Int} {j : Nat} (h : H a = some (.lst (ns.map V.int))) (hj : ns[j]? = some n) (hf : ∀ i, i < j → ns[i]? ≠ some n) (q : Q (.int (j : Nat)) H) : rIndex K (.ref a) [.int n] H Q :=
  ⟨a, _, _, j, .int n, rfl, rfl, SqL.of h, rfl, flat_ints _, by rw [List.getElem?_map, hj]; rfl, by rw [eqV_ints, decide_eq_true rfl], fun m z' hm hz => by
    rw [List.getElem?_map] at hz
    cases e : ns[m]? with
    | none => rw [e] at hz; cases hz
    | some x =>
      rw [e] at hz; cases hz
      rw [eqV_ints]
      exact decide_eq_false fun e2 => hf m hm (by rw [e, e2]), q⟩
theorem vals_map {n : Nat} {ns : List V} (f : Nat → Int) (ln : ns.length = n) (hn : ∀ (i : Nat) v, ns[i]? = some v → v = .int (f i)) : ns = ((List.range n).map f).map V.int := by
  refine List.ext_getElem? fun i => ?_
  rw [List.map_map, List.getElem?_map]
  by_cases hi : i < n
  · obtain ⟨v, hv⟩ : ∃ v, ns[i]? = some v := ⟨_, List.getElem?_eq_getElem (by omega)⟩
    rw [hv, List.getElem?_range hi, hn i v hv]
    rfl
  · rw [List.getElem?_eq_none (by omega), List.getElem?_eq_none (by rw [List.length_range]; omega)]
    rfl
theorem at_int {ns : List Int} {i : Int} {j : Nat} {n : Int} (e : i = (j : Int)) (h : ns[j]? = some n) : atI (ns.map V.int) i = some (.int n) := by
  subst e
  exact atI_nat (by rw [List.getElem?_map, h]; rfl)
theorem at_val {xs : List V} {i : Int} {j : Nat} (e : i = (j : Int)) (h : xs[j]? = some v) : atI xs i = some v := by
  subst e
  exact atI_nat h
theorem zr {i : Nat} {H H' : Hp} (y : YFn (fun (i : Nat) => V.int ((0 : Int) + (i : Int))) i H x H') : x = .int (i : Int) ∧ H' = H := by
  obtain ⟨a, b⟩ := y
  exact ⟨by rw [b]; show V.int (0 + (i : Int)) = _; rw [Int.zero_add], a⟩
/-! ### new objects, by what they leave -/
def NewT (Q : VK) (xs : List V) (H : Hp) : Prop := xs.length ≤ sizeLine ∧ ∀ p, H p = none → Q (.ref p) (upd H p (.tup xs))
def NewL (Q : VK) (xs : List V) (H : Hp) : Prop := xs.length ≤ sizeLine ∧ ∀ p, H p = none → Q (.ref p) (upd H p (.lst xs))
theorem tupN (h : tr σ H (NewT Q)) : tTup tr σ H Q := h
theorem lstN (h : tr σ H (NewL Q)) : tLst tr σ H Q := h
theorem nwT {xs : List V} (s : xs.length ≤ sizeLine) (h : ∀ p H', H p = none → Same H H' → H' p = some (.tup xs) → Q (.ref p) H') : NewT Q xs H := ⟨s, fun p np => h p _ np (same_new np) upd_same⟩
theorem nwL {xs : List V} (s : xs.length ≤ sizeLine) (h : ∀ p H', H p = none → Same H H' → H' p = some (.lst xs) → Q (.ref p) H') : NewL Q xs H := ⟨s, fun p np => h p _ np (same_new np) upd_same⟩
def ListOf (K : PySem.W.Frag) (Q : VK) (vs : List V) (H : Hp) : Prop := ∃ p ys, vs = [.ref p] ∧ (SqL K H p ys ∨ SqT K H p ys) ∧ ∀ l, H l = none → Q (.ref l) (upd H l (.lst ys))
theorem cbListOf (h : tr σ H (ListOf K Q)) : tCB (fun xs H Q => ∃ p ys, xs = [.ref p] ∧ (SqL K H p ys ∨ SqT K H p ys) ∧ ∀ l, H l = none → Q (.ref l) (upd H l (.lst ys))) tr σ H Q := h
theorem listOfq {a : Addr} {ys : List V} (s : SqL K H a ys) (h : ∀ p H', H p = none → Same H H' → H' p = some (.lst ys) → Q (.ref p) H') : ListOf K Q [.ref a] H := ⟨a, ys, rfl, .inl s, fun p np => h p _ np (same_new np) upd_same⟩
theorem listOf {a : Addr} {ys : List V} (s : H a = some (.lst ys)) (h : ∀ p H', H p = none → Same H H' → H' p = some (.lst ys) → Q (.ref p) H') : ListOf K Q [.ref a] H := listOfq (SqL.of s) h
def SlL (K : PySem.W.Frag) (x : V) (lo hi : Option Int) (Q : VK) (H : Hp) : Prop := ∃ a xs, x = .ref a ∧ SqL K H a xs ∧ ∀ p, H p = none → Q (.ref p) (upd H p (.lst (cutV xs lo hi)))
theorem slN {tl th : TO} (h : te σ H fun x H1 => tl σ H1 fun l H2 => th σ H2 fun u H3 => SlL K x l u Q H3) : L2.tSl (rSlL K) te tl th σ H Q := h
theorem slq {a : Addr} {xs : List V} {lo hi : Option Int} (s : SqL K H a xs) (h : ∀ p H', H p = none → Same H H' → H' p = some (.lst (cutV xs lo hi)) → Q (.ref p) H') : SlL K (.ref a) lo hi Q H := ⟨a, xs, rfl, s, fun p np => h p _ np (same_new np) upd_same⟩
theorem slo {a : Addr} {xs : List V} {lo hi : Option Int} (s : H a = some (.lst xs)) (h : ∀ p H', H p = none → Same H H' → H' p = some (.lst (cutV xs lo hi)) → Q (.ref p) H') : SlL K (.ref a) lo hi Q H := slq (SqL.of s) h
def SrtI (K : PySem.W.Frag) (Q : VK) (vs : List V) (H : Hp) : Prop := rSortedI K vs H Q
theorem cbSrtI (h : tr σ H (SrtI K Q)) : tCB (rSortedI K) tr σ H Q := h
theorem srtI {a : Addr} {ns : List Int} (s : SqL K H a (ns.map V.int)) (h : ∀ (ns' : List Int) p H', ns'.Perm ns → ns'.Pairwise (· ≤ ·) → H p = none → Same H H' → H' p = some (.lst (ns'.map V.int)) → Q (.ref p) H') : SrtI K Q [.ref a] H :=
  ⟨a, ns, rfl, s, fun ns' p e1 e2 np => h ns' p _ e1 e2 np (same_new np) upd_same⟩
theorem srtIo {a : Addr} {ns : List Int} (s : H a = some (.lst (ns.map V.int))) (h : ∀ (ns' : List Int) p H', ns'.Perm ns → ns'.Pairwise (· ≤ ·) → H p = none → Same H H' → H' p = some (.lst (ns'.map V.int)) → Q (.ref p) H') : SrtI K Q [.ref a] H := srtI (SqL.of s) h
theorem eqD {d e : PyData} (h1 : Dp K H x d) (h2 : Dp K H y e) (s1 : SeqAt.shaped d = true) (s2 : SeqAt.shaped e = true) (q : Q (.bl (PyData.eqv d e)) H) : rEqD K x y H Q := ⟨d, e, h1, h2, s1, s2, q⟩
theorem neD {d e : PyData} (h1 : Dp K H x d) (h2 : Dp K H y e) (s1 : SeqAt.shaped d = true) (s2 : SeqAt.shaped e = true) (q : Q (.bl (!PyData.eqv d e)) H) : rNeD K x y H Q := ⟨d, e, h1, h2, s1, s2, q⟩
/-! ### isinstance -/
theorem isi {T U : String} {b : Bool} (t : TyX K H x (.type T)) (k : kitB T U = some b) (q : Q (.bl b) H) : rIsi K [x, .ty U] H Q := ⟨x, .ty U, _, _, b, rfl, .ty _, t, kit_ty k, q⟩
theorem isi_ii {n : Int} (q : Q (.bl true) H) : rIsi K [.int n, .ty "int"] H Q := isi (.base (.int _)) (by decide +kernel) q
theorem isi_ib {n : Int} (q : Q (.bl false) H) : rIsi K [.int n, .ty "bool"] H Q := isi (.base (.int _)) (by decide +kernel) q
theorem isi_is {n : Int} (q : Q (.bl false) H) : rIsi K [.int n, .ty "str"] H Q := isi (.base (.int _)) (by decide +kernel) q
theorem isi_il {n : Int} (q : Q (.bl false) H) : rIsi K [.int n, .ty "list"] H Q := isi (.base (.int _)) (by decide +kernel) q
theorem isi_it {n : Int} (q : Q (.bl false) H) : rIsi K [.int n, .ty "tuple"] H Q := isi (.base (.int _)) (by decide +kernel) q
theorem isi_id {n : Int} (q : Q (.bl false) H) : rIsi K [.int n, .ty "dict"] H Q := isi (.base (.int _)) (by decide +kernel) q
theorem isi_bi {n : Bool} (q : Q (.bl true) H) : rIsi K [.bl n, .ty "int"] H Q := isi (.base (.bl _)) (by decide +kernel) q
theorem isi_bb {n : Bool} (q : Q (.bl true) H) : rIsi K [.bl n, .ty "bool"] H Q := isi (.base (.bl _)) (by decide +kernel) q
theorem isi_bs {n : Bool} (q : Q (.bl false) H) : rIsi K [.bl n, .ty "str"] H Q := isi (.base (.bl _)) (by decide +kernel) q
theorem isi_bl {n : Bool} (q : Q (.bl false) H) : rIsi K [.bl n, .ty "list"] H Q := isi (.base (.bl _)) (by decide +kernel) q
theorem isi_bt {n : Bool} (q : Q (.bl false) H) : rIsi K [.bl n, .ty "tuple"] H Q := isi (.base (.bl _)) (by decide +kernel) q
theorem isi_bd {n : Bool} (q : Q (.bl false) H) : rIsi K [.bl n, .ty "dict"] H Q := isi (.base (.bl _)) (by decide +kernel) q
theorem isi_si {n : Str} (q : Q (.bl false) H) : rIsi K [.str n, .ty "int"] H Q := isi (.base (.str _)) (by decide +kernel) q
theorem isi_sb {n : Str} (q : Q (.bl false) H) : rIsi K [.str n, .ty "bool"] H Q := isi (.base (.str _)) (by decide +kernel) q
theorem isi_ss {n : Str} (q : Q (.bl true) H) : rIsi K [.str n, .ty "str"] H Q := isi (.base (.str _)) (by decide +kernel) q
theorem isi_sl {n : Str} (q : Q (.bl false) H) : rIsi K [.str n, .ty "list"] H Q := isi (.base (.str _)) (by decide +kernel) q
theorem isi_st {n : Str} (q : Q (.bl false) H) : rIsi K [.str n, .ty "tuple"] H Q := isi (.base (.str _)) (by decide +kernel) q
theorem isi_sd {n : Str} (q : Q (.bl false) H) : rIsi K [.str n, .ty "dict"] H Q := isi (.base (.str _)) (by decide +kernel) q
theorem isi_li {n : Addr} {xs : List V} (h : H n = some (.lst xs)) (q : Q (.bl false) H) : rIsi K [.ref n, .ty "int"] H Q := isi (.base (.lst h)) (by decide +kernel) q
theorem isi_lb {n : Addr} {xs : List V} (h : H n = some (.lst xs)) (q : Q (.bl false) H) : rIsi K [.ref n, .ty "bool"] H Q := isi (.base (.lst h)) (by decide +kernel) q
theorem isi_ls {n : Addr} {xs : List V} (h : H n = some (.lst xs)) (q : Q (.bl false) H) : rIsi K [.ref n, .ty "str"] H Q := isi (.base (.lst h)) (by decide +kernel) q
theorem isi_ll {n : Addr} {xs : List V} (h : H n = some (.lst xs)) (q : Q (.bl true) H) : rIsi K [.ref n, .ty "list"] H Q := isi (.base (.lst h)) (by decide +kernel) q
theorem isi_lt {n : Addr} {xs : List V} (h : H n = some (.lst xs)) (q : Q (.bl false) H) : rIsi K [.ref n, .ty "tuple"] H Q := isi (.base (.lst h)) (by decide +kernel) q
theorem isi_ld {n : Addr} {xs : List V} (h : H n = some (.lst xs)) (q : Q (.bl false) H) : rIsi K [.ref n, .ty "dict"] H Q := isi (.base (.lst h)) (by decide +kernel) q
theorem isi_ti {n : Addr} {xs : List V} (h : H n = some (.tup xs)) (q : Q (.bl false) H) : rIsi K [.ref n, .ty "int"] H Q := isi (.base (.tup h)) (by decide +kernel) q
theorem isi_tb {n : Addr} {xs : List V} (h : H n = some (.tup xs)) (q : Q (.bl false) H) : rIsi K [.ref n, .ty "bool"] H Q := isi (.base (.tup h)) (by decide +kernel) q
theorem isi_ts {n : Addr} {xs : List V} (h : H n = some (.tup xs)) (q : Q (.bl false) H) : rIsi K [.ref n, .ty "str"] H Q := isi (.base (.tup h)) (by decide +kernel) q
theorem isi_tl {n : Addr} {xs : List V} (h : H n = some (.tup xs)) (q : Q (.bl false) H) : rIsi K [.ref n, .ty "list"] H Q := isi (.base (.tup h)) (by decide +kernel) q
theorem isi_tt {n : Addr} {xs : List V} (h : H n = some (.tup xs)) (q : Q (.bl true) H) : rIsi K [.ref n, .ty "tuple"] H Q := isi (.base (.tup h)) (by decide +kernel) q
theorem isi_td {n : Addr} {xs : List V} (h : H n = some (.tup xs)) (q : Q (.bl false) H) : rIsi K [.ref n, .ty "dict"] H Q := isi (.base (.tup h)) (by decide +kernel) q
theorem isi_ni  (q : Q (.bl false) H) : rIsi K [.non, .ty "int"] H Q := isi (.base .non) (by decide +kernel) q
theorem isi_nb  (q : Q (.bl false) H) : rIsi K [.non, .ty "bool"] H Q := isi (.base .non) (by decide +kernel) q
theorem isi_ns  (q : Q (.bl false) H) : rIsi K [.non, .ty "str"] H Q := isi (.base .non) (by decide +kernel) q
theorem isi_nl  (q : Q (.bl false) H) : rIsi K [.non, .ty "list"] H Q := isi (.base .non) (by decide +kernel) q
theorem isi_nt  (q : Q (.bl false) H) : rIsi K [.non, .ty "tuple"] H Q := isi (.base .non) (by decide +kernel) q
theorem isi_nd  (q : Q (.bl false) H) : rIsi K [.non, .ty "dict"] H Q := isi (.base .non) (by decide +kernel) q
/-! ### slices of lists -/
theorem cut_to (xs : List V) (n : Nat) : cutV xs none (some (n : Int)) = xs.take n := by
  unfold cutV
  rw [HT.sIx_nat, HT.sIx_none, List.drop_zero, Nat.sub_zero]
  rcases Nat.le_total n xs.length with h | h
  · rw [Nat.min_eq_left h]
  · rw [Nat.min_eq_right h, List.take_of_length_le (Nat.le_refl _), List.take_of_length_le h]
theorem cut_from (xs : List V) (n : Nat) : cutV xs (some (n : Int)) none = xs.drop n := by
  unfold cutV
  rw [HT.sIx_nat, HT.sIx_none]
  rcases Nat.le_total n xs.length with h | h
  · rw [Nat.min_eq_left h, List.take_of_length_le (by rw [List.length_drop]; omega)]
  · rw [Nat.min_eq_right h, List.drop_of_length_le h, List.drop_of_length_le (Nat.le_refl _), List.take_nil]
theorem eqv_self (d : PyData) (h : d.canLay0 = true) : PyData.eqv d d = true := PySem.SeqAt.eqv_refl d h
/-! ### ints of a list, filtered -/
theorem lc_fl {a : Addr} {ns : List Int} {g : TG} {tt : TT} {te : TE} {vs : List Nat} {σ : L2.St} {H1 : Hp} {C : Addr} {Qd : Hp → Prop} (p : Int → Bool) (hS : SqL K H1 a (ns.map V.int)) (nD : H1 C = none) (hn : ns.length ≤ 90000)
    (hs : ∀ (i : Nat) H (n : Int) (Kt : VK) (Kn : Hp → Prop), ns[i]? = some n → But C H1 H → (p n = true → Kt (.int n) H) → (p n = false → Kn H) → g (.int n) (wipe σ vs) H fun σ2 H2 => wipe σ2 vs = wipe σ vs ∧ tt σ2 H2 fun b H3 => if b = true then te σ2 H3 Kt else Kn H3)
    (hd : ∀ H, Same H1 H → H C = some (.lst ((ns.filter p).map V.int)) → Qd H) :
    ∃ W : Nat → Nat → Hp → Prop, (∃ m, W 0 m (upd H1 C (.lst []))) ∧ ∀ i m H, W i m H →
      ((Itl K a).stop i H ∧ Qd H) ∨ ((Itl K a).go i H ∧ ∃ Nx : Hp → Prop, (∀ H', Nx H' → ∃ m', m' < m ∧ W (i + 1) m' H') ∧ ∀ x H', (Itl K a).yld i H x H' → g x (wipe σ vs) H' fun σ2 H2 => wipe σ2 vs = wipe σ vs ∧ tt σ2 H2 fun b H3 =>
        if b = true then te σ2 H3 fun y H4 => ∃ acc, H4 C = some (.lst acc) ∧ acc.length < sizeLine ∧ Nx (upd H4 C (.lst (acc ++ [y]))) else Nx H3) := by
  refine lc_it (walk_list (xs := ns.map V.int)) (fun i H => But C H1 H ∧ H C = some (.lst (((ns.take i).filter p).map V.int))) ⟨But.at_, by simp [upd_same]⟩ (fun i H _ h => (h.1.to nD).seq hS) (fun i x H H' hi ⟨b, hD⟩ y => ?_) (fun H ⟨b, hD⟩ => ?_)
  · obtain ⟨rfl, hx⟩ := y
    rw [List.getElem?_map] at hx
    obtain ⟨n, hn2, rfl⟩ : ∃ n, ns[i]? = some n ∧ V.int n = x := by
      cases e : ns[i]? with
      | none => rw [e] at hx; cases hx
      | some n => rw [e] at hx; exact ⟨n, rfl, Option.some.inj hx⟩
    have tk : (ns.take (i + 1)).filter p = (ns.take i).filter p ++ [n].filter p := by
      rw [List.take_add_one, hn2, List.filter_append]; rfl
    refine hs i _ n _ _ hn2 b (fun hp => ?_) (fun hp => ?_)
    · refine ⟨_, hD, szl ?_, b.trans But.at_, ?_⟩
      · rw [List.length_map]
        have := List.length_filter_le p (ns.take i)
        rw [List.length_take] at this
        omega
      · rw [upd_same, tk, List.filter_cons_of_pos hp]
        simp
    · refine ⟨b, ?_⟩
      rw [tk, List.filter_cons_of_neg (by simp [hp])]
      simpa using hD
  · rw [List.length_map, List.take_of_length_le (Nat.le_refl _)] at hD
    exact hd H (b.to nD) hD
theorem intI {i : Int} {A : Int → Prop} {B : Prop} (h : A i) : (∃ j, [V.int i] = [.int j] ∧ A j) ∨ B := .inl ⟨i, rfl, h⟩
theorem pos_ne {i : Int} (h : 0 < i) : i ≠ 0 := by omega
theorem ifnT {A B : Prop} (h : B) : if (!true) = true then A else B := by rw [if_neg (by decide)]; exact h
theorem ifnF {A B : Prop} (h : A) : if (!false) = true then A else B := by rw [if_pos (by decide)]; exact h
theorem cbListOfR {tr : TA} (h : tr σ H (ListOf K Q)) : tCB (rListOf K) tr σ H Q := h
def CatL (Q : VK) (x y : V) (H : Hp) : Prop := ∃ l b xs zs, x = .ref l ∧ y = .ref b ∧ H l = some (.lst xs) ∧ H b = some (.lst zs) ∧ xs.length + zs.length ≤ sizeLine ∧ ∀ p, H p = none → Q (.ref p) (upd H p (.lst (xs ++ zs)))
theorem catI (h : CatL Q x y H) : rCat x y H Q := h
theorem cat {a b : Addr} {xs zs : List V} (h1 : H a = some (.lst xs)) (h2 : H b = some (.lst zs)) (s : xs.length + zs.length ≤ 100000) (h : ∀ p H', H p = none → Same H H' → H' p = some (.lst (xs ++ zs)) → Q (.ref p) H') : CatL Q (.ref a) (.ref b) H := ⟨a, b, xs, zs, rfl, rfl, h1, h2, sz s, fun p np => h p _ np (same_new np) upd_same⟩
theorem v16 {a0 a1 a2 a3 a4 a5 a6 a7 a8 a9 a10 a11 a12 a13 a14 a15 : Option V} (h : Q v H) : tVar 16 (a0 :: a1 :: a2 :: a3 :: a4 :: a5 :: a6 :: a7 :: a8 :: a9 :: a10 :: a11 :: a12 :: a13 :: a14 :: a15 :: some v :: r) H Q := ⟨v, rfl, h⟩
theorem n16 {a0 a1 a2 a3 a4 a5 a6 a7 a8 a9 a10 a11 a12 a13 a14 a15 : Option V} {Q : L2.St → Hp → Prop} (h : Q (a0 :: a1 :: a2 :: a3 :: a4 :: a5 :: a6 :: a7 :: a8 :: a9 :: a10 :: a11 :: a12 :: a13 :: a14 :: a15 :: some v :: r) H) : gName 16 v (a0 :: a1 :: a2 :: a3 :: a4 :: a5 :: a6 :: a7 :: a8 :: a9 :: a10 :: a11 :: a12 :: a13 :: a14 :: a15 :: a :: r) H Q := h
theorem g16 {a0 a1 a2 a3 a4 a5 a6 a7 a8 a9 a10 a11 a12 a13 a14 a15 : Option V} {ti : TIp} (h : te (a0 :: a1 :: a2 :: a3 :: a4 :: a5 :: a6 :: a7 :: a8 :: a9 :: a10 :: a11 :: a12 :: a13 :: a14 :: a15 :: some x :: r) H fun y H1 => ti x y H1 fun z H2 => D.nx (a0 :: a1 :: a2 :: a3 :: a4 :: a5 :: a6 :: a7 :: a8 :: a9 :: a10 :: a11 :: a12 :: a13 :: a14 :: a15 :: some z :: r) H2) : tAug 16 te ti D (a0 :: a1 :: a2 :: a3 :: a4 :: a5 :: a6 :: a7 :: a8 :: a9 :: a10 :: a11 :: a12 :: a13 :: a14 :: a15 :: some x :: r) H := ⟨x, rfl, h⟩
theorem v17 {a0 a1 a2 a3 a4 a5 a6 a7 a8 a9 a10 a11 a12 a13 a14 a15 a16 : Option V} (h : Q v H) : tVar 17 (a0 :: a1 :: a2 :: a3 :: a4 :: a5 :: a6 :: a7 :: a8 :: a9 :: a10 :: a11 :: a12 :: a13 :: a14 :: a15 :: a16 :: some v :: r) H Q := ⟨v, rfl, h⟩
theorem n17 {a0 a1 a2 a3 a4 a5 a6 a7 a8 a9 a10 a11 a12 a13 a14 a15 a16 : Option V} {Q : L2.St → Hp → Prop} (h : Q (a0 :: a1 :: a2 :: a3 :: a4 :: a5 :: a6 :: a7 :: a8 :: a9 :: a10 :: a11 :: a12 :: a13 :: a14 :: a15 :: a16 :: some v :: r) H) : gName 17 v (a0 :: a1 :: a2 :: a3 :: a4 :: a5 :: a6 :: a7 :: a8 :: a9 :: a10 :: a11 :: a12 :: a13 :: a14 :: a15 :: a16 :: a :: r) H Q := h
theorem g17 {a0 a1 a2 a3 a4 a5 a6 a7 a8 a9 a10 a11 a12 a13 a14 a15 a16 : Option V} {ti : TIp} (h : te (a0 :: a1 :: a2 :: a3 :: a4 :: a5 :: a6 :: a7 :: a8 :: a9 :: a10 :: a11 :: a12 :: a13 :: a14 :: a15 :: a16 :: some x :: r) H fun y H1 => ti x y H1 fun z H2 => D.nx (a0 :: a1 :: a2 :: a3 :: a4 :: a5 :: a6 :: a7 :: a8 :: a9 :: a10 :: a11 :: a12 :: a13 :: a14 :: a15 :: a16 :: some z :: r) H2) : tAug 17 te ti D (a0 :: a1 :: a2 :: a3 :: a4 :: a5 :: a6 :: a7 :: a8 :: a9 :: a10 :: a11 :: a12 :: a13 :: a14 :: a15 :: a16 :: some x :: r) H := ⟨x, rfl, h⟩
theorem v18 {a0 a1 a2 a3 a4 a5 a6 a7 a8 a9 a10 a11 a12 a13 a14 a15 a16 a17 : Option V} (h : Q v H) : tVar 18 (a0 :: a1 :: a2 :: a3 :: a4 :: a5 :: a6 :: a7 :: a8 :: a9 :: a10 :: a11 :: a12 :: a13 :: a14 :: a15 :: a16 :: a17 :: some v :: r) H Q := ⟨v, rfl, h⟩
theorem n18 {a0 a1 a2 a3 a4 a5 a6 a7 a8 a9 a10 a11 a12 a13 a14 a15 a16 a17 : Option V} {Q : L2.St → Hp → Prop} (h : Q (a0 :: a1 :: a2 :: a3 :: a4 :: a5 :: a6 :: a7 :: a8 :: a9 :: a10 :: a11 :: a12 :: a13 :: a14 :: a15 :: a16 :: a17 :: some v :: r) H) : gName 18 v (a0 :: a1 :: a2 :: a3 :: a4 :: a5 :: a6 :: a7 :: a8 :: a9 :: a10 :: a11 :: a12 :: a13 :: a14 :: a15 :: a16 :: a17 :: a :: r) H Q := h
theorem g18 {a0 a1 a2 a3 a4 a5 a6 a7 a8 a9 a10 a11 a12 a13 a14 a15 a16 a17 : Option V} {ti : TIp} (h : te (a0 :: a1 :: a2 :: a3 :: a4 :: a5 :: a6 :: a7 :: a8 :: a9 :: a10 :: a11 :: a12 :: a13 :: a14 :: a15 :: a16 :: a17 :: some x :: r) H fun y H1 => ti x y H1 fun z H2 => D.nx (a0 :: a1 :: a2 :: a3 :: a4 :: a5 :: a6 :: a7 :: a8 :: a9 :: a10 :: a11 :: a12 :: a13 :: a14 :: a15 :: a16 :: a17 :: some z :: r) H2) : tAug 18 te ti D (a0 :: a1 :: a2 :: a3 :: a4 :: a5 :: a6 :: a7 :: a8 :: a9 :: a10 :: a11 :: a12 :: a13 :: a14 :: a15 :: a16 :: a17 :: some x :: r) H := ⟨x, rfl, h⟩
theorem v19 {a0 a1 a2 a3 a4 a5 a6 a7 a8 a9 a10 a11 a12 a13 a14 a15 a16 a17 a18 : Option V} (h : Q v H) : tVar 19 (a0 :: a1 :: a2 :: a3 :: a4 :: a5 :: a6 :: a7 :: a8 :: a9 :: a10 :: a11 :: a12 :: a13 :: a14 :: a15 :: a16 :: a17 :: a18 :: some v :: r) H Q := ⟨v, rfl, h⟩
theorem n19 {a0 a1 a2 a3 a4 a5 a6 a7 a8 a9 a10 a11 a12 a13 a14 a15 a16 a17 a18 : Option V} {Q : L2.St → Hp → Prop} (h : Q (a0 :: a1 :: a2 :: a3 :: a4 :: a5 :: a6 :: a7 :: a8 :: a9 :: a10 :: a11 :: a12 :: a13 :: a14 :: a15 :: a16 :: a17 :: a18 :: some v :: r) H) : gName 19 v (a0 :: a1 :: a2 :: a3 :: a4 :: a5 :: a6 :: a7 :: a8 :: a9 :: a10 :: a11 :: a12 :: a13 :: a14 :: a15 :: a16 :: a17 :: a18 :: a :: r) H Q := h
theorem g19 {a0 a1 a2 a3 a4 a5 a6 a7 a8 a9 a10 a11 a12 a13 a14 a15 a16 a17 a18 : Option V} {ti : TIp} (h : te (a0 :: a1 :: a2 :: a3 :: a4 :: a5 :: a6 :: a7 :: a8 :: a9 :: a10 :: a11 :: a12 :: a13 :: a14 :: a15 :: a16 :: a17 :: a18 :: some x :: r) H fun y H1 => ti x y H1 fun z H2 => D.nx (a0 :: a1 :: a2 :: a3 :: a4 :: a5 :: a6 :: a7 :: a8 :: a9 :: a10 :: a11 :: a12 :: a13 :: a14 :: a15 :: a16 :: a17 :: a18 :: some z :: r) H2) : tAug 19 te ti D (a0 :: a1 :: a2 :: a3 :: a4 :: a5 :: a6 :: a7 :: a8 :: a9 :: a10 :: a11 :: a12 :: a13 :: a14 :: a15 :: a16 :: a17 :: a18 :: some x :: r) H := ⟨x, rfl, h⟩
theorem v20 {a0 a1 a2 a3 a4 a5 a6 a7 a8 a9 a10 a11 a12 a13 a14 a15 a16 a17 a18 a19 : Option V} (h : Q v H) : tVar 20 (a0 :: a1 :: a2 :: a3 :: a4 :: a5 :: a6 :: a7 :: a8 :: a9 :: a10 :: a11 :: a12 :: a13 :: a14 :: a15 :: a16 :: a17 :: a18 :: a19 :: some v :: r) H Q := ⟨v, rfl, h⟩
theorem n20 {a0 a1 a2 a3 a4 a5 a6 a7 a8 a9 a10 a11 a12 a13 a14 a15 a16 a17 a18 a19 : Option V} {Q : L2.St → Hp → Prop} (h : Q (a0 :: a1 :: a2 :: a3 :: a4 :: a5 :: a6 :: a7 :: a8 :: a9 :: a10 :: a11 :: a12 :: a13 :: a14 :: a15 :: a16 :: a17 :: a18 :: a19 :: some v :: r) H) : gName 20 v (a0 :: a1 :: a2 :: a3 :: a4 :: a5 :: a6 :: a7 :: a8 :: a9 :: a10 :: a11 :: a12 :: a13 :: a14 :: a15 :: a16 :: a17 :: a18 :: a19 :: a :: r) H Q := h
theorem g20 {a0 a1 a2 a3 a4 a5 a6 a7 a8 a9 a10 a11 a12 a13 a14 a15 a16 a17 a18 a19 : Option V} {ti : TIp} (h : te (a0 :: a1 :: a2 :: a3 :: a4 :: a5 :: a6 :: a7 :: a8 :: a9 :: a10 :: a11 :: a12 :: a13 :: a14 :: a15 :: a16 :: a17 :: a18 :: a19 :: some x :: r) H fun y H1 => ti x y H1 fun z H2 => D.nx (a0 :: a1 :: a2 :: a3 :: a4 :: a5 :: a6 :: a7 :: a8 :: a9 :: a10 :: a11 :: a12 :: a13 :: a14 :: a15 :: a16 :: a17 :: a18 :: a19 :: some z :: r) H2) : tAug 20 te ti D (a0 :: a1 :: a2 :: a3 :: a4 :: a5 :: a6 :: a7 :: a8 :: a9 :: a10 :: a11 :: a12 :: a13 :: a14 :: a15 :: a16 :: a17 :: a18 :: a19 :: some x :: r) H := ⟨x, rfl, h⟩
theorem v21 {a0 a1 a2 a3 a4 a5 a6 a7 a8 a9 a10 a11 a12 a13 a14 a15 a16 a17 a18 a19 a20 : Option V} (h : Q v H) : tVar 21 (a0 :: a1 :: a2 :: a3 :: a4 :: a5 :: a6 :: a7 :: a8 :: a9 :: a10 :: a11 :: a12 :: a13 :: a14 :: a15 :: a16 :: a17 :: a18 :: a19 :: a20 :: some v :: r) H Q := ⟨v, rfl, h⟩
theorem n21 {a0 a1 a2 a3 a4 a5 a6 a7 a8 a9 a10 a11 a12 a13 a14 a15 a16 a17 a18 a19 a20 : Option V} {Q : L2.St → Hp → Prop} (h : Q (a0 :: a1 :: a2 :: a3 :: a4 :: a5 :: a6 :: a7 :: a8 :: a9 :: a10 :: a11 :: a12 :: a13 :: a14 :: a15 :: a16 :: a17 :: a18 :: a19 :: a20 :: some v :: r) H) : gName 21 v (a0 :: a1 :: a2 :: a3 :: a4 :: a5 :: a6 :: a7 :: a8 :: a9 :: a10 :: a11 :: a12 :: a13 :: a14 :: a15 :: a16 :: a17 :: a18 :: a19 :: a20 :: a :: r) H Q := h
theorem g21 {a0 a1 a2 a3 a4 a5 a6 a7 a8 a9 a10 a11 a12 a13 a14 a15 a16 a17 a18 a19 a20 : Option V} {ti : TIp} (h : te (a0 :: a1 :: a2 :: a3 :: a4 :: a5 :: a6 :: a7 :: a8 :: a9 :: a10 :: a11 :: a12 :: a13 :: a14 :: a15 :: a16 :: a17 :: a18 :: a19 :: a20 :: some x :: r) H fun y H1 => ti x y H1 fun z H2 => D.nx (a0 :: a1 :: a2 :: a3 :: a4 :: a5 :: a6 :: a7 :: a8 :: a9 :: a10 :: a11 :: a12 :: a13 :: a14 :: a15 :: a16 :: a17 :: a18 :: a19 :: a20 :: some z :: r) H2) : tAug 21 te ti D (a0 :: a1 :: a2 :: a3 :: a4 :: a5 :: a6 :: a7 :: a8 :: a9 :: a10 :: a11 :: a12 :: a13 :: a14 :: a15 :: a16 :: a17 :: a18 :: a19 :: a20 :: some x :: r) H := ⟨x, rfl, h⟩
theorem v22 {a0 a1 a2 a3 a4 a5 a6 a7 a8 a9 a10 a11 a12 a13 a14 a15 a16 a17 a18 a19 a20 a21 : Option V} (h : Q v H) : tVar 22 (a0 :: a1 :: a2 :: a3 :: a4 :: a5 :: a6 :: a7 :: a8 :: a9 :: a10 :: a11 :: a12 :: a13 :: a14 :: a15 :: a16 :: a17 :: a18 :: a19 :: a20 :: a21 :: some v :: r) H Q := ⟨v, rfl, h⟩
theorem n22 {a0 a1 a2 a3 a4 a5 a6 a7 a8 a9 a10 a11 a12 a13 a14 a15 a16 a17 a18 a19 a20 a21 : Option V} {Q : L2.St → Hp → Prop} (h : Q (a0 :: a1 :: a2 :: a3 :: a4 :: a5 :: a6 :: a7 :: a8 :: a9 :: a10 :: a11 :: a12 :: a13 :: a14 :: a15 :: a16 :: a17 :: a18 :: a19 :: a20 :: a21 :: some v :: r) H) : gName 22 v (a0 :: a1 :: a2 :: a3 :: a4 :: a5 :: a6 :: a7 :: a8 :: a9 :: a10 :: a11 :: a12 :: a13 :: a14 :: a15 :: a16 :: a17 :: a18 :: a19 :: a20 :: a21 :: a :: r) H Q := h
theorem g22 {a0 a1 a2 a3 a4 a5 a6 a7 a8 a9 a10 a11 a12 a13 a14 a15 a16 a17 a18 a19 a20 a21 : Option V} {ti : TIp} (h : te (a0 :: a1 :: a2 :: a3 :: a4 :: a5 :: a6 :: a7 :: a8 :: a9 :: a10 :: a11 :: a12 :: a13 :: a14 :: a15 :: a16 :: a17 :: a18 :: a19 :: a20 :: a21 :: some x :: r) H fun y H1 => ti x y H1 fun z H2 => D.nx (a0 :: a1 :: a2 :: a3 :: a4 :: a5 :: a6 :: a7 :: a8 :: a9 :: a10 :: a11 :: a12 :: a13 :: a14 :: a15 :: a16 :: a17 :: a18 :: a19 :: a20 :: a21 :: some z :: r) H2) : tAug 22 te ti D (a0 :: a1 :: a2 :: a3 :: a4 :: a5 :: a6 :: a7 :: a8 :: a9 :: a10 :: a11 :: a12 :: a13 :: a14 :: a15 :: a16 :: a17 :: a18 :: a19 :: a20 :: a21 :: some x :: r) H := ⟨x, rfl, h⟩
theorem v23 {a0 a1 a2 a3 a4 a5 a6 a7 a8 a9 a10 a11 a12 a13 a14 a15 a16 a17 a18 a19 a20 a21 a22 : Option V} (h : Q v H) : tVar 23 (a0 :: a1 :: a2 :: a3 :: a4 :: a5 :: a6 :: a7 :: a8 :: a9 :: a10 :: a11 :: a12 :: a13 :: a14 :: a15 :: a16 :: a17 :: a18 :: a19 :: a20 :: a21 :: a22 :: some v :: r) H Q := ⟨v, rfl, h⟩
theorem n23 {a0 a1 a2 a3 a4 a5 a6 a7 a8 a9 a10 a11 a12 a13 a14 a15 a16 a17 a18 a19 a20 a21 a22 : Option V} {Q : L2.St → Hp → Prop} (h : Q (a0 :: a1 :: a2 :: a3 :: a4 :: a5 :: a6 :: a7 :: a8 :: a9 :: a10 :: a11 :: a12 :: a13 :: a14 :: a15 :: a16 :: a17 :: a18 :: a19 :: a20 :: a21 :: a22 :: some v :: r) H) : gName 23 v (a0 :: a1 :: a2 :: a3 :: a4 :: a5 :: a6 :: a7 :: a8 :: a9 :: a10 :: a11 :: a12 :: a13 :: a14 :: a15 :: a16 :: a17 :: a18 :: a19 :: a20 :: a21 :: a22 :: a :: r) H Q := h
theorem g23 {a0 a1 a2 a3 a4 a5 a6 a7 a8 a9 a10 a11 a12 a13 a14 a15 a16 a17 a18 a19 a20 a21 a22 : Option V} {ti : TIp} (h : te (a0 :: a1 :: a2 :: a3 :: a4 :: a5 :: a6 :: a7 :: a8 :: a9 :: a10 :: a11 :: a12 :: a13 :: a14 :: a15 :: a16 :: a17 :: a18 :: a19 :: a20 :: a21 :: a22 :: some x :: r) H fun y H1 => ti x y H1 fun z H2 => D.nx (a0 :: a1 :: a2 :: a3 :: a4 :: a5 :: a6 :: a7 :: a8 :: a9 :: a10 :: a11 :: a12 :: a13 :: a14 :: a15 :: a16 :: a17 :: a18 :: a19 :: a20 :: a21 :: a22 :: some z :: r) H2) : tAug 23 te ti D (a0 :: a1 :: a2 :: a3 :: a4 :: a5 :: a6 :: a7 :: a8 :: a9 :: a10 :: a11 :: a12 :: a13 :: a14 :: a15 :: a16 :: a17 :: a18 :: a19 :: a20 :: a21 :: a22 :: some x :: r) H := ⟨x, rfl, h⟩
theorem v24 {a0 a1 a2 a3 a4 a5 a6 a7 a8 a9 a10 a11 a12 a13 a14 a15 a16 a17 a18 a19 a20 a21 a22 a23 : Option V} (h : Q v H) : tVar 24 (a0 :: a1 :: a2 :: a3 :: a4 :: a5 :: a6 :: a7 :: a8 :: a9 :: a10 :: a11 :: a12 :: a13 :: a14 :: a15 :: a16 :: a17 :: a18 :: a19 :: a20 :: a21 :: a22 :: a23 :: some v :: r) H Q := ⟨v, rfl, h⟩
theorem n24 {a0 a1 a2 a3 a4 a5 a6 a7 a8 a9 a10 a11 a12 a13 a14 a15 a16 a17 a18 a19 a20 a21 a22 a23 : Option V} {Q : L2.St → Hp → Prop} (h : Q (a0 :: a1 :: a2 :: a3 :: a4 :: a5 :: a6 :: a7 :: a8 :: a9 :: a10 :: a11 :: a12 :: a13 :: a14 :: a15 :: a16 :: a17 :: a18 :: a19 :: a20 :: a21 :: a22 :: a23 :: some v :: r) H) : gName 24 v (a0 :: a1 :: a2 :: a3 :: a4 :: a5 :: a6 :: a7 :: a8 :: a9 :: a10 :: a11 :: a12 :: a13 :: a14 :: a15 :: a16 :: a17 :: a18 :: a19 :: a20 :: a21 :: a22 :: a23 :: a :: r) H Q := h
theorem g24 {a0 a1 a2 a3 a4 a5 a6 a7 a8 a9 a10 a11 a12 a13 a14 a15 a16 a17 a18 a19 a20 a21 a22 a23 : Option V} {ti : TIp} (h : te (a0 :: a1 :: a2 :: a3 :: a4 :: a5 :: a6 :: a7 :: a8 :: a9 :: a10 :: a11 :: a12 :: a13 :: a14 :: a15 :: a16 :: a17 :: a18 :: a19 :: a20 :: a21 :: a22 :: a23 :: some x :: r) H fun y H1 => ti x y H1 fun z H2 => D.nx (a0 :: a1 :: a2 :: a3 :: a4 :: a5 :: a6 :: a7 :: a8 :: a9 :: a10 :: a11 :: a12 :: a13 :: a14 :: a15 :: a16 :: a17 :: a18 :: a19 :: a20 :: a21 :: a22 :: a23 :: some z :: r) H2) : tAug 24 te ti D (a0 :: a1 :: a2 :: a3 :: a4 :: a5 :: a6 :: a7 :: a8 :: a9 :: a10 :: a11 :: a12 :: a13 :: a14 :: a15 :: a16 :: a17 :: a18 :: a19 :: a20 :: a21 :: a22 :: a23 :: some x :: r) H := ⟨x, rfl, h⟩
theorem v25 {a0 a1 a2 a3 a4 a5 a6 a7 a8 a9 a10 a11 a12 a13 a14 a15 a16 a17 a18 a19 a20 a21 a22 a23 a24 : Option V} (h : Q v H) : tVar 25 (a0 :: a1 :: a2 :: a3 :: a4 :: a5 :: a6 :: a7 :: a8 :: a9 :: a10 :: a11 :: a12 :: a13 :: a14 :: a15 :: a16 :: a17 :: a18 :: a19 :: a20 :: a21 :: a22 :: a23 :: a24 :: some v :: r) H Q := ⟨v, rfl, h⟩
theorem n25 {a0 a1 a2 a3 a4 a5 a6 a7 a8 a9 a10 a11 a12 a13 a14 a15 a16 a17 a18 a19 a20 a21 a22 a23 a24 : Option V} {Q : L2.St → Hp → Prop} (h : Q (a0 :: a1 :: a2 :: a3 :: a4 :: a5 :: a6 :: a7 :: a8 :: a9 :: a10 :: a11 :: a12 :: a13 :: a14 :: a15 :: a16 :: a17 :: a18 :: a19 :: a20 :: a21 :: a22 :: a23 :: a24 :: some v :: r) H) : gName 25 v (a0 :: a1 :: a2 :: a3 :: a4 :: a5 :: a6 :: a7 :: a8 :: a9 :: a10 :: a11 :: a12 :: a13 :: a14 :: a15 :: a16 :: a17 :: a18 :: a19 :: a20 :: a21 :: a22 :: a23 :: a24 :: a :: r) H Q := h
theorem g25 {a0 a1 a2 a3 a4 a5 a6 a7 a8 a9 a10 a11 a12 a13 a14 a15 a16 a17 a18 a19 a20 a21 a22 a23 a24 : Option V} {ti : TIp} (h : te (a0 :: a1 :: a2 :: a3 :: a4 :: a5 :: a6 :: a7 :: a8 :: a9 :: a10 :: a11 :: a12 :: a13 :: a14 :: a15 :: a16 :: a17 :: a18 :: a19 :: a20 :: a21 :: a22 :: a23 :: a24 :: some x :: r) H fun y H1 => ti x y H1 fun z H2 => D.nx (a0 :: a1 :: a2 :: a3 :: a4 :: a5 :: a6 :: a7 :: a8 :: a9 :: a10 :: a11 :: a12 :: a13 :: a14 :: a15 :: a16 :: a17 :: a18 :: a19 :: a20 :: a21 :: a22 :: a23 :: a24 :: some z :: r) H2) : tAug 25 te ti D (a0 :: a1 :: a2 :: a3 :: a4 :: a5 :: a6 :: a7 :: a8 :: a9 :: a10 :: a11 :: a12 :: a13 :: a14 :: a15 :: a16 :: a17 :: a18 :: a19 :: a20 :: a21 :: a22 :: a23 :: a24 :: some x :: r) H := ⟨x, rfl, h⟩
theorem v26 {a0 a1 a2 a3 a4 a5 a6 a7 a8 a9 a10 a11 a12 a13 a14 a15 a16 a17 a18 a19 a20 a21 a22 a23 a24 a25 : Option V} (h : Q v H) : tVar 26 (a0 :: a1 :: a2 :: a3 :: a4 :: a5 :: a6 :: a7 :: a8 :: a9 :: a10 :: a11 :: a12 :: a13 :: a14 :: a15 :: a16 :: a17 :: a18 :: a19 :: a20 :: a21 :: a22 :: a23 :: a24 :: a25 :: some v :: r) H Q := ⟨v, rfl, h⟩
theorem n26 {a0 a1 a2 a3 a4 a5 a6 a7 a8 a9 a10 a11 a12 a13 a14 a15 a16 a17 a18 a19 a20 a21 a22 a23 a24 a25 : Option V} {Q : L2.St → Hp → Prop} (h : Q (a0 :: a1 :: a2 :: a3 :: a4 :: a5 :: a6 :: a7 :: a8 :: a9 :: a10 :: a11 :: a12 :: a13 :: a14 :: a15 :: a16 :: a17 :: a18 :: a19 :: a20 :: a21 :: a22 :: a23 :: a24 :: a25 :: some v :: r) H) : gName 26 v (a0 :: a1 :: a2 :: a3 :: a4 :: a5 :: a6 :: a7 :: a8 :: a9 :: a10 :: a11 :: a12 :: a13 :: a14 :: a15 :: a16 :: a17 :: a18 :: a19 :: a20 :: a21 :: a22 :: a23 :: a24 :: a25 :: a :: r) H Q := h
theorem g26 {a0 a1 a2 a3 a4 a5 a6 a7 a8 a9 a10 a11 a12 a13 a14 a15 a16 a17 a18 a19 a20 a21 a22 a23 a24 a25 : Option V} {ti : TIp} (h : te (a0 :: a1 :: a2 :: a3 :: a4 :: a5 :: a6 :: a7 :: a8 :: a9 :: a10 :: a11 :: a12 :: a13 :: a14 :: a15 :: a16 :: a17 :: a18 :: a19 :: a20 :: a21 :: a22 :: a23 :: a24 :: a25 :: some x :: r) H fun y H1 => ti x y H1 fun z H2 => D.nx (a0 :: a1 :: a2 :: a3 :: a4 :: a5 :: a6 :: a7 :: a8 :: a9 :: a10 :: a11 :: a12 :: a13 :: a14 :: a15 :: a16 :: a17 :: a18 :: a19 :: a20 :: a21 :: a22 :: a23 :: a24 :: a25 :: some z :: r) H2) : tAug 26 te ti D (a0 :: a1 :: a2 :: a3 :: a4 :: a5 :: a6 :: a7 :: a8 :: a9 :: a10 :: a11 :: a12 :: a13 :: a14 :: a15 :: a16 :: a17 :: a18 :: a19 :: a20 :: a21 :: a22 :: a23 :: a24 :: a25 :: some x :: r) H := ⟨x, rfl, h⟩
theorem v27 {a0 a1 a2 a3 a4 a5 a6 a7 a8 a9 a10 a11 a12 a13 a14 a15 a16 a17 a18 a19 a20 a21 a22 a23 a24 a25 a26 : Option V} (h : Q v H) : tVar 27 (a0 :: a1 :: a2 :: a3 :: a4 :: a5 :: a6 :: a7 :: a8 :: a9 :: a10 :: a11 :: a12 :: a13 :: a14 :: a15 :: a16 :: a17 :: a18 :: a19 :: a20 :: a21 :: a22 :: a23 :: a24 :: a25 :: a26 :: some v :: r) H Q := ⟨v, rfl, h⟩
theorem n27 {a0 a1 a2 a3 a4 a5 a6 a7 a8 a9 a10 a11 a12 a13 a14 a15 a16 a17 a18 a19 a20 a21 a22 a23 a24 a25 a26 : Option V} {Q : L2.St → Hp → Prop} (h : Q (a0 :: a1 :: a2 :: a3 :: a4 :: a5 :: a6 :: a7 :: a8 :: a9 :: a10 :: a11 :: a12 :: a13 :: a14 :: a15 :: a16 :: a17 :: a18 :: a19 :: a20 :: a21 :: a22 :: a23 :: a24 :: a25 :: a26 :: some v :: r) H) : gName 27 v (a0 :: a1 :: a2 :: a3 :: a4 :: a5 :: a6 :: a7 :: a8 :: a9 :: a10 :: a11 :: a12 :: a13 :: a14 :: a15 :: a16 :: a17 :: a18 :: a19 :: a20 :: a21 :: a22 :: a23 :: a24 :: a25 :: a26 :: a :: r) H Q := h
theorem g27 {a0 a1 a2 a3 a4 a5 a6 a7 a8 a9 a10 a11 a12 a13 a14 a15 a16 a17 a18 a19 a20 a21 a22 a23 a24 a25 a26 : Option V} {ti : TIp} (h : te (a0 :: a1 :: a2 :: a3 :: a4 :: a5 :: a6 :: a7 :: a8 :: a9 :: a10 :: a11 :: a12 :: a13 :: a14 :: a15 :: a16 :: a17 :: a18 :: a19 :: a20 :: a21 :: a22 :: a23 :: a24 :: a25 :: a26 :: some x :: r) H fun y H1 => ti x y H1 fun z H2 => D.nx (a0 :: a1 :: a2 :: a3 :: a4 :: a5 :: a6 :: a7 :: a8 :: a9 :: a10 :: a11 :: a12 :: a13 :: a14 :: a15 :: a16 :: a17 :: a18 :: a19 :: a20 :: a21 :: a22 :: a23 :: a24 :: a25 :: a26 :: some z :: r) H2) : tAug 27 te ti D (a0 :: a1 :: a2 :: a3 :: a4 :: a5 :: a6 :: a7 :: a8 :: a9 :: a10 :: a11 :: a12 :: a13 :: a14 :: a15 :: a16 :: a17 :: a18 :: a19 :: a20 :: a21 :: a22 :: a23 :: a24 :: a25 :: a26 :: some x :: r) H := ⟨x, rfl, h⟩
end Rd

set_option Elab.async false
set_option linter.all false
set_option maxRecDepth 100000
/-! dicts whose keys are ints: what a reading asks of them, over lists of pairs -/
namespace L2
open PySem PySem.Spec PyProof.Rows
section
variable {X : Cx}
/-- name = {..} on one line, the name a local: the dict comprehension's form of the rule for a list -/
theorem ps_setDc {i : Nat} {y : Str} {py : Pos} {kx vx tg iter : Expr} {ifs : List Expr} {scope : Scope} {own : List (Str × Nat)} {pos spos : Pos} {wi : TI} {g : TG} {tt : TT} {tk tv : TE} (hc : X.calm = true) (hN : X.N.Nodup) (hy : X.N[i]? = some y) (hyl : X.env.scope.names.lookup y = some .local)
    (hsw : swapsWith (.DictComp kx vx [⟨tg, iter, ifs, 0⟩] scope pos) (some (.Name y py)) spos.line X.env = pure true) (hi : PI X tg iter wi) (ok : BlkOk X.N X.env.scope scope own)
    (hg : ∀ (s : Shared) (H : Hp) (C : Addr) (cl : List (Str × Addr)) (fp : List Addr), PG (X.blk s H scope (compEnvC scope cl C X.env) fp) tg g) (ht : ∀ (s : Shared) (H : Hp) (C : Addr) (cl : List (Str × Addr)) (fp : List Addr), PTs (X.blk s H scope (compEnvC scope cl C X.env) fp) ifs tt)
    (hk : ∀ (s : Shared) (H : Hp) (C : Addr) (cl : List (Str × Addr)) (fp : List Addr), PE (X.blk s H scope (compEnvC scope cl C X.env) fp) kx tk)
    (he : ∀ (s : Shared) (H : Hp) (C : Addr) (cl : List (Str × Addr)) (fp : List Addr), PE (X.blk s H scope (compEnvC scope cl C X.env) fp) vx tv) (hs : ∀ x, foldedSetIterable iter X.env x = pure x := by intro _; rfl) :
    PS X (.Assign [.Name y py] (.DictComp kx vx [⟨tg, iter, ifs, 0⟩] scope pos) spos) (tAsg (tDc wi g tt tk tv (own.map (·.2))) (gName i)) := by
  refine ⟨fun pins s σ H D I h => ?_⟩
  rw [exec_Assign_Name_used _ _ _ _ hsw]
  refine wpAny_bind (wpAny_standAt (wpAny_bind ?_))
  show wpAny _ X.A (do let _ ← comprehension (.DictComp kx vx [⟨tg, iter, ifs, 0⟩] scope pos) scope X.env (firstIterPos [⟨tg, iter, ifs, 0⟩] pos) newDict false (eval iter X.env) (some (assign (.Name y py) X.env))) _ _ s
  have h : tDc wi g tt tk tv (own.map (·.2)) σ H (fun x H1 => gName i x σ H1 D.nx) := h
  refine wpAny_bind (thn (dc_core (Qf := fun _ s' => SP X pins D .next s') hc hN I hi ok hg ht hk he hs h fun L C s' m H' I' q hn f => ?_) fun _ s' hq => wpAny_pure (wpAny_pure hq))
  show wpAny _ _ (assign (.Name y py) X.env (.ref L)) _ _ _
  refine wpAny_assign_Name (store_ok2 (v := V.ref L) I' hN hy (.inl hyl) rfl (fun s2 I2 ⟨a, sb, ha⟩ => ?_) (.inr hyl))
  obtain ⟨f0, f1, f2, f3, f4, f5⟩ := f
  have haC : C ≠ a := by
    rcases ha with z | z
    · rw [z]; exact f1
    · exact fun e => f4 y a z e.symm
  refine ⟨m, hn.sameBut sb haC, fun h3 sb3 => ?_⟩
  exact ⟨_, H', I2.turned (t' := s2.toks) (fun b o hb e => (sb3.2 b hb).trans e) f0 f1 f3 f4 f5, q⟩
theorem sw_trueD {kx vx : Expr} {gs : List Comprehension} {scope : Scope} {pos py : Pos} {y : Str} {l : Nat} {env : Env} (hk : env.scope.kind = .function) (hy : env.scope.names.lookup y = some .local) (hl : (py.line == pos.line) = true)
    (ha : (scope.names.any fun (n, k) => n == y && (k == .local || k == .cell)) = false) : swapsWith (.DictComp kx vx gs scope pos) (some (.Name y py)) l env = pure true := by
  have ky : env.kindOf y = some .local := hy
  have hb : env.blockKind = .function := by unfold Env.blockKind; rw [hk]; rfl
  unfold swapsWith
  simp only [hb, ky, ha, Expr.pos, hl]
  rfl
end
end L2
namespace Rd
open PySem PySem.Spec PyProof.Rows L2
variable {K : PySem.W.Frag} {σ : L2.St} {H : Hp} {D : Ends} {Q : VK} {ta tb te tc td ty tx : TE} {x y v : V}
/-- a dict of ints to values, in order -/
abbrev DI (m : List (Int × V)) : HO := .dK (m.map fun p => (Sum.inl p.1, p.2))
def lk (m : List (Int × V)) (k : Int) : Option V := (m.find? fun p => decide (p.1 = k)).map (·.2)
def pt (m : List (Int × V)) (k : Int) (v : V) : List (Int × V) := if (m.any fun p => decide (p.1 = k)) = true then m.map (fun p => if p.1 = k then (p.1, v) else p) else m ++ [(k, v)]
theorem valV_di (m : List (Int × V)) (k : Int) : valV (m.map fun p => ((Sum.inl p.1 : Key), p.2)) (Sum.inl k) = lk m k := by
  unfold valV lk
  induction m with
  | nil => rfl
  | cons a r ih =>
    rw [List.map_cons, List.find?_cons, List.find?_cons]
    by_cases h : a.1 = k
    · have e : decide ((Sum.inl a.1 : Key) = Sum.inl k) = true := decide_eq_true (by rw [h])
      rw [e, decide_eq_true h]; rfl
    · have e : decide ((Sum.inl a.1 : Key) = Sum.inl k) = false := decide_eq_false fun z => h (Sum.inl.inj z)
      rw [e, decide_eq_false h]; exact ih
theorem putK_di (m : List (Int × V)) (k : Int) (v : V) : putK (m.map fun p => ((Sum.inl p.1 : Key), p.2)) (Sum.inl k) v = (pt m k v).map fun p => ((Sum.inl p.1 : Key), p.2) := by
  have e : ∀ p : Int × V, decide ((Sum.inl p.1 : Key) = Sum.inl k) = decide (p.1 = k) := fun p => by
    by_cases h : p.1 = k
    · rw [decide_eq_true h, decide_eq_true (by rw [h])]
    · rw [decide_eq_false h, decide_eq_false fun z => h (Sum.inl.inj z)]
  unfold putK pt
  rw [List.any_map]
  have e2 : (m.any ((fun kv : Key × V => decide (kv.1 = Sum.inl k)) ∘ fun p => ((Sum.inl p.1 : Key), p.2))) = m.any fun p => decide (p.1 = k) := by
    congr 1; funext p; exact e p
  rw [e2]
  split
  · rw [List.map_map, List.map_map]
    congr 1; funext p
    show (if (Sum.inl p.1 : Key) = Sum.inl k then ((Sum.inl p.1 : Key), v) else (Sum.inl p.1, p.2)) = _
    by_cases h : p.1 = k
    · simp [h]
    · have h2 : ¬ (Sum.inl p.1 : Key) = Sum.inl k := fun z => h (Sum.inl.inj z)
      simp [h]
  · rw [List.map_append]; rfl
theorem get_di {a : Addr} {m : List (Int × V)} {k : Int} (h : Rd H a (DI m)) : DGet H a (.int k) (lk m k) := .inl ⟨_, Sum.inl k, h, rfl, (valV_di m k).symm⟩
theorem rd_of {a : Addr} {u : HO} (h : H a = some u) : L2.Rd H a u := .inl h
theorem rd_fz {a : Addr} {u : HO} {o : Obj} (h : H a = some (.frz o u)) : L2.Rd H a u := .inr ⟨o, h⟩
theorem lk_pt (m : List (Int × V)) (k k' : Int) (v : V) : lk (pt m k v) k' = if k' = k then some v else lk m k' := by
  unfold pt
  split
  · rename_i c
    unfold lk
    induction m with
    | nil => simp at c
    | cons a r ih =>
      rw [List.map_cons, List.find?_cons, List.find?_cons]
      by_cases h : a.1 = k
      · rw [if_pos h]
        by_cases h2 : k' = k
        · rw [if_pos h2, decide_eq_true (by rw [h, h2])]; rfl
        · have e : ¬ a.1 = k' := fun z => h2 (by rw [← z, h])
          rw [if_neg h2, decide_eq_false e]
          have e2 : List.map (fun p => if p.1 = k then (p.1, v) else p) r = List.map (fun p => if p.1 = k then (p.1, v) else p) r := rfl
          have : (List.find? (fun p => decide (p.1 = k')) (List.map (fun p => if p.1 = k then (p.1, v) else p) r)).map (·.2) = (List.find? (fun p => decide (p.1 = k')) r).map (·.2) := by
            clear ih c e2
            induction r with
            | nil => rfl
            | cons b r ih =>
              rw [List.map_cons, List.find?_cons, List.find?_cons]
              by_cases h3 : b.1 = k
              · rw [if_pos h3, decide_eq_false (fun z : b.1 = k' => h2 (by rw [← z, h3]))]; exact ih
              · rw [if_neg h3]
                by_cases h4 : b.1 = k'
                · rw [decide_eq_true h4]
                · rw [decide_eq_false h4]; exact ih
          exact this
      · rw [if_neg h]
        have c2 : (r.any fun p => decide (p.1 = k)) = true := by
          rw [List.any_cons, decide_eq_false h, Bool.false_or] at c; exact c
        by_cases h4 : a.1 = k'
        · have e : ¬ k' = k := fun z => h (by rw [h4, z])
          rw [decide_eq_true h4, if_neg e]
        · rw [decide_eq_false h4]; exact ih c2
  · rename_i c
    unfold lk
    rw [List.find?_append]
    have nk : ∀ p ∈ m, ¬ p.1 = k := fun p hp z => c (List.any_eq_true.mpr ⟨p, hp, decide_eq_true z⟩)
    by_cases h2 : k' = k
    · rw [if_pos h2, h2]
      have e : List.find? (fun p => decide (p.1 = k)) m = none := List.find?_eq_none.mpr fun p hp z => nk p hp (of_decide_eq_true z)
      rw [e]; simp
    · rw [if_neg h2]
      have e : ¬ k = k' := fun z => h2 z.symm
      have e2 : List.find? (fun p : Int × V => decide (p.1 = k')) [(k, v)] = none := by simp [e]
      rw [e2, Option.or_none]
theorem pt_len {m : List (Int × V)} {k : Int} {v : V} : (pt m k v).length ≤ m.length + 1 := by
  unfold pt
  split <;> simp
/-! ### expressions -/
def NewD (Q : VK) (H : Hp) : Prop := ∀ p, H p = none → Q (.ref p) (upd H p (.dK []))
theorem dnew (h : NewD Q H) : tDNewK σ H Q := h
theorem nwD (h : ∀ p H', H p = none → Same H H' → H' p = some (DI []) → Q (.ref p) H') : NewD Q H := fun p np => h p _ np (same_new np) upd_same
def DinG (Q : VK) (x y : V) (H : Hp) : Prop := ∃ a o, x = .ref a ∧ DGet H a y o ∧ Q (.bl o.isSome) H
theorem din (h : ty σ H fun y H1 => td σ H1 fun x H2 => DinG Q x y H2) : tDIn ty td σ H Q := h
theorem dinI {a : Addr} {m : List (Int × V)} {k : Int} (h : L2.Rd H a (DI m)) (q : Q (.bl (lk m k).isSome) H) : DinG Q (.ref a) (.int k) H := ⟨a, _, rfl, get_di h, q⟩
def DnotG (Q : VK) (x y : V) (H : Hp) : Prop := ∃ a o, x = .ref a ∧ DGet H a y o ∧ Q (.bl (!o.isSome)) H
theorem dnot (h : ty σ H fun y H1 => td σ H1 fun x H2 => DnotG Q x y H2) : tDNotIn ty td σ H Q := h
theorem dnotI {a : Addr} {m : List (Int × V)} {k : Int} (h : L2.Rd H a (DI m)) (q : Q (.bl (!(lk m k).isSome)) H) : DnotG Q (.ref a) (.int k) H := ⟨a, _, rfl, get_di h, q⟩
def DgG (Q : VK) (x y : V) (H : Hp) : Prop := ∃ a v, x = .ref a ∧ DGet H a y (some v) ∧ Q v H
theorem dget (h : td σ H fun x H1 => ty σ H1 fun y H2 => DgG Q x y H2) : tDGet td ty σ H Q := h
theorem dgetI {a : Addr} {m : List (Int × V)} {k : Int} (h : L2.Rd H a (DI m)) (e : lk m k = some v) (q : Q v H) : DgG Q (.ref a) (.int k) H := ⟨a, v, rfl, e ▸ get_di h, q⟩
def Dg2G (Q : VK) (a : Addr) (y z : V) (H : Hp) : Prop := ∃ o, DGet H a y o ∧ Q (o.getD z) H
theorem dget2 (h : td σ H fun x H1 => ∃ a, x = .ref a ∧ IsD H1 a ∧ ty σ H1 fun y H2 => tx σ H2 fun z H3 => Dg2G Q a y z H3) : tDGet2 td ty tx σ H Q := h
theorem isd {a : Addr} {m : List (Int × V)} {A : Prop} (h : H a = some (DI m)) (q : A) : IsD H a ∧ A := ⟨.inl ⟨_, .inl h⟩, q⟩
theorem dget2I {a : Addr} {m : List (Int × V)} {k : Int} {z : V} (h : L2.Rd H a (DI m)) (q : Q ((lk m k).getD z) H) : Dg2G Q a (.int k) z H := ⟨_, get_di h, q⟩
def DpG (D : Ends) (σ : L2.St) (x y v : V) (H : Hp) : Prop := ∃ a H4, x = .ref a ∧ DPut H a y v H4 ∧ D.nx σ H4
theorem dput {tv : TE} (h : tv σ H fun v H1 => td σ H1 fun x H2 => ty σ H2 fun y H3 => DpG D σ x y v H3) : sDPut td ty tv D σ H := h
theorem dputI {a : Addr} {m : List (Int × V)} {k : Int} (h : H a = some (DI m)) (l : m.length < 100000) (q : D.nx σ (upd H a (DI (pt m k v)))) : DpG D σ (.ref a) (.int k) v H :=
  ⟨a, _, rfl, .inl ⟨_, Sum.inl k, h, rfl, by rw [List.length_map]; exact szl l, rfl⟩, by rw [putK_di]; exact q⟩
/-- dict(d) -/
def DictOf (Q : VK) (vs : List V) (H : Hp) : Prop := ∃ (a : Addr) (kvs : List (Key × V)), vs = [.ref a] ∧ L2.Rd H a (.dK kvs) ∧ ∀ p, H p = none → Q (.ref p) (upd H p (.dK kvs))
theorem cbDictOf {tr : TA} (h : tr σ H (DictOf Q)) : tCB (fun xs H Q => ∃ (a : Addr) (kvs : List (Key × V)), xs = [.ref a] ∧ L2.Rd H a (.dK kvs) ∧ ∀ p, H p = none → Q (.ref p) (upd H p (.dK kvs))) tr σ H Q := h
theorem dictOf {a : Addr} {m : List (Int × V)} (s : H a = some (DI m)) (h : ∀ p H', H p = none → Same H H' → H' p = some (DI m) → Q (.ref p) H') : DictOf Q [.ref a] H := ⟨a, _, rfl, .inl s, fun p np => h p _ np (same_new np) upd_same⟩
theorem isi_dd {n : Addr} {m : List (Int × V)} (h : H n = some (DI m)) (q : Q (.bl true) H) : rIsi K [.ref n, .ty "dict"] H Q := isi (.base (.dK h)) (by decide +kernel) q
/-! ### == -/
theorem neDict {a b : Addr} {m n : List (Int × V)} (ea : H a = some (DI m)) (eb : H b = some (DI n)) (l : m.length = n.length) (e : ∀ p ∈ m, lk n p.1 = some p.2 ∧ flatB p.2 = true) (q : Q (.bl false) H) : rNeDA (.ref a) (.ref b) H Q :=
  ⟨a, b, _, _, rfl, rfl, ea, eb, by rw [List.length_map, List.length_map]; exact l, fun p hp => by
    obtain ⟨x, hx, rfl⟩ := List.mem_map.mp hp
    rw [valV_di]; exact e x hx, q⟩
theorem eqDict {a b : Addr} {m n : List (Int × V)} (ea : H a = some (DI m)) (eb : H b = some (DI n)) (l : m.length = n.length) (e : ∀ p ∈ m, lk n p.1 = some p.2 ∧ flatB p.2 = true) (q : Q (.bl true) H) : rEqDA (.ref a) (.ref b) H Q :=
  ⟨a, b, _, _, rfl, rfl, ea, eb, by rw [List.length_map, List.length_map]; exact l, fun p hp => by
    obtain ⟨x, hx, rfl⟩ := List.mem_map.mp hp
    rw [valV_di]; exact e x hx, q⟩
/-! ### walks -/
variable {R : It → Hp → Prop}
theorem iitems (h : te σ H fun x H1 => ∃ d o kvs, x = .ref d ∧ H1 d = some (.frz o (.dK kvs)) ∧ R (Iti d o kvs) H1) : iItems te σ H R := h
theorem itA {d : Addr} {o : Obj} {kvs : List (Key × V)} {P : Addr → Obj → List (Key × V) → Prop} (h : H d = some (.frz o (.dK kvs))) (q : P d o kvs) : ∃ d' o' kvs', V.ref d = .ref d' ∧ H d' = some (.frz o' (.dK kvs')) ∧ P d' o' kvs' := ⟨d, o, kvs, rfl, h, q⟩
theorem ikeys (h : te σ H fun x H1 => ∃ d o, x = .ref d ∧ ((∃ kvs, H1 d = some (.frz o (.dK kvs)) ∧ R (Itk d o kvs) H1) ∨ ∃ kvs, H1 d = some (.frz o (.dT kvs)) ∧ R (Itkt d o kvs) H1)) : iKeys te σ H R := h
theorem ikA {d : Addr} {o : Obj} {kvs : List (Key × V)} {P : Addr → Obj → List (Key × V) → Prop} {B : Addr → Obj → Prop} (h : H d = some (.frz o (.dK kvs))) (q : P d o kvs) : ∃ d' o', V.ref d = .ref d' ∧ ((∃ kvs', H d' = some (.frz o' (.dK kvs')) ∧ P d' o' kvs') ∨ B d' o') := ⟨d, o, rfl, .inl ⟨kvs, h, q⟩⟩
theorem lockS {t : TS} {d : Addr} {m : List (Int × V)} (h : H d = some (DI m)) (q : ∀ od, t ⟨fun σ' H' => H' d = some (.frz od (DI m)) ∧ D.nx σ' (upd H' d (DI m)), fun v H' => H' d = some (.frz od (DI m)) ∧ D.rt v (upd H' d (DI m)), fun σ' H' => H' d = some (.frz od (DI m)) ∧ D.bk σ' (upd H' d (DI m)), fun σ' H' => H' d = some (.frz od (DI m)) ∧ D.ct σ' (upd H' d (DI m))⟩ σ (upd H d (.frz od (DI m)))) : tLock t D σ H :=
  ⟨d, _, h, trivial, q⟩
theorem lockE {t : TE} {d : Addr} {m : List (Int × V)} (h : H d = some (DI m)) (q : ∀ od, t σ (upd H d (.frz od (DI m))) fun v H' => H' d = some (.frz od (DI m)) ∧ Q v (upd H' d (DI m))) : tLockE t σ H Q := ⟨d, _, h, trivial, q⟩
/-- the dict given back: all is kept -/
theorem unlock {H' : Hp} {d : Addr} {u : HO} (h : H d = some u) (b : But d H H') : Same H (upd H' d u) := fun c o e => by
  by_cases z : c = d
  · subst z; rw [upd_same]; exact h.symm.trans e
  · rw [upd_ne z]; exact b c o z e
theorem lock {d : Addr} {u : HO} : But d H (upd H d u) := But.at_
/-- the i-th pair of a walk over items: a new tuple -/
theorem items_at {m : List (Int × V)} {i : Nat} {x : V} {H H' : Hp} (y : YPair (fun i => ((m.map fun p => ((Sum.inl p.1 : Key), p.2))[i]?).map fun kv => kV kv.1) (fun i => ((m.map fun p => ((Sum.inl p.1 : Key), p.2))[i]?).map Prod.snd) i H x H') :
    ∃ (T : Addr) (p : Int × V), m[i]? = some p ∧ x = .ref T ∧ H T = none ∧ H' = upd H T (.tup [.int p.1, p.2]) := by
  obtain ⟨T, a, b, e1, e2, e3, e4, e5⟩ := y
  dsimp only at e4 e5
  rw [List.getElem?_map] at e4 e5
  cases e : m[i]? with
  | none => rw [e] at e4; cases e4
  | some p =>
    rw [e] at e4 e5
    cases e4; cases e5
    exact ⟨T, p, rfl, e1, e2, e3⟩
theorem keys_at {m : List (Int × V)} {i : Nat} {x : V} {H H' : Hp} (y : H' = H ∧ ∃ k v, (m.map fun p => ((Sum.inl p.1 : Key), p.2))[i]? = some (k, v) ∧ x = kV k) : H' = H ∧ ∃ p : Int × V, m[i]? = some p ∧ x = .int p.1 := by
  obtain ⟨e, k, v, h, rfl⟩ := y
  rw [List.getElem?_map] at h
  cases e2 : m[i]? with
  | none => rw [e2] at h; cases h
  | some p => rw [e2] at h; cases h; exact ⟨e, p, rfl, rfl⟩
/-! ### comprehensions -/
theorem dc {wi : TI} {g : TG} {tt : TT} {tk tv : TE} {ws : List Nat} (h : wi σ H fun J H1 => ∀ D, H1 D = none → ∃ W : Nat → Nat → Hp → Prop, (∃ m, W 0 m (upd H1 D (.dK []))) ∧ ∀ i m H, W i m H →
  (J.stop i H ∧ Q (.ref D) H) ∨ (J.go i H ∧ ∃ Nx : Hp → Prop, (∀ H', Nx H' → ∃ m', m' < m ∧ W (i + 1) m' H') ∧ ∀ x H', J.yld i H x H' → g x (wipe σ ws) H' fun σ2 H2 => wipe σ2 ws = wipe σ ws ∧ tt σ2 H2 fun b H3 =>
    if b = true then tk σ2 H3 fun y H4 => tv σ2 H4 fun z H5 => ∃ kvs k, y = kV k ∧ H5 D = some (.dK kvs) ∧ kvs.length < sizeLine ∧ Nx (upd H5 D (.dK (putK kvs k z))) else Nx H3)) : tDc wi g tt tk tv ws σ H Q := h
theorem dc_it {J : It} {n : Nat} {G : Hp → Prop} {Y : Nat → Hp → V → Hp → Prop} (w : Walk J n G Y) {g : TG} {tt : TT} {tk tv : TE} {vs : List Nat} {H1 : Hp} {d : Addr} {Qd : Hp → Prop} (Pv : Nat → Hp → Prop) (h0 : Pv 0 (upd H1 d (DI []))) (hG : ∀ i H, i ≤ n → Pv i H → G H)
    (hs : ∀ i x H H' (Kt : V → V → Hp → Prop) (Kn : Hp → Prop), i < n → Pv i H → Y i H x H' → (∀ m k z H5, H5 d = some (DI m) → m.length < 100000 → Pv (i + 1) (upd H5 d (DI (pt m k z))) → Kt (.int k) z H5) → (∀ H3, Pv (i + 1) H3 → Kn H3) →
      g x (wipe σ vs) H' fun σ2 H2 => wipe σ2 vs = wipe σ vs ∧ tt σ2 H2 fun b H3 => if b = true then tk σ2 H3 fun y H4 => tv σ2 H4 fun z H5 => Kt y z H5 else Kn H3)
    (hd : ∀ H, Pv n H → Qd H) :
    ∃ W : Nat → Nat → Hp → Prop, (∃ m, W 0 m (upd H1 d (.dK []))) ∧ ∀ i m H, W i m H →
      (J.stop i H ∧ Qd H) ∨ (J.go i H ∧ ∃ Nx : Hp → Prop, (∀ H', Nx H' → ∃ m', m' < m ∧ W (i + 1) m' H') ∧ ∀ x H', J.yld i H x H' → g x (wipe σ vs) H' fun σ2 H2 => wipe σ2 vs = wipe σ vs ∧ tt σ2 H2 fun b H3 =>
        if b = true then tk σ2 H3 fun y H4 => tv σ2 H4 fun z H5 => ∃ kvs k, y = kV k ∧ H5 d = some (.dK kvs) ∧ kvs.length < sizeLine ∧ Nx (upd H5 d (.dK (putK kvs k z))) else Nx H3) := by
  refine ⟨fun i m H => m = n - i ∧ i ≤ n ∧ Pv i H, ⟨n, by simp, Nat.zero_le _, h0⟩, ?_⟩
  rintro i m H ⟨rfl, hi, p⟩
  have q := hG i H hi p
  by_cases hlt : i < n
  · refine .inr ⟨w.goes i H hlt q, Pv (i + 1), fun H' p' => ⟨n - (i + 1), by omega, rfl, hlt, p'⟩, fun x H' y => ?_⟩
    exact hs i x H H' (fun y z H5 => ∃ kvs k, y = kV k ∧ H5 d = some (.dK kvs) ∧ kvs.length < sizeLine ∧ Pv (i + 1) (upd H5 d (.dK (putK kvs k z)))) _ hlt p (w.yields i H x H' hlt q y)
      (fun m k z H5 h5 hl r => ⟨_, Sum.inl k, rfl, h5, by rw [List.length_map]; exact szl hl, by rw [putK_di]; exact r⟩) fun _ h => h
  · have e : i = n := by omega
    subst e
    exact .inl ⟨w.stops H q, hd H p⟩
end Rd

set_option Elab.async false
set_option linter.all false
set_option maxRecDepth 100000
/-! dicts from ints to ints -/
namespace Rd
open PySem PySem.Spec PyProof.Rows L2
abbrev iv (p : Int × Int) : Int × V := (p.1, V.int p.2)
abbrev DN (m : List (Int × Int)) : HO := DI (m.map iv)
def lkN (m : List (Int × Int)) (k : Int) : Option Int := (m.find? fun p => decide (p.1 = k)).map (·.2)
def ptN (m : List (Int × Int)) (k v : Int) : List (Int × Int) := if (m.any fun p => decide (p.1 = k)) = true then m.map (fun p => if p.1 = k then (p.1, v) else p) else m ++ [(k, v)]
theorem lk_iv (m : List (Int × Int)) (k : Int) : lk (m.map iv) k = (lkN m k).map V.int := by
  unfold lk lkN
  induction m with
  | nil => rfl
  | cons a r ih =>
    rw [List.map_cons, List.find?_cons, List.find?_cons]
    by_cases h : a.1 = k
    · have e : decide ((iv a).1 = k) = true := decide_eq_true h
      rw [e]; rfl
    · have e : decide ((iv a).1 = k) = false := decide_eq_false h
      rw [e]; exact ih
theorem pt_iv (m : List (Int × Int)) (k v : Int) : pt (m.map iv) k (.int v) = (ptN m k v).map iv := by
  unfold pt ptN
  rw [List.any_map]
  have e2 : (m.any ((fun p : Int × V => decide (p.1 = k)) ∘ iv)) = m.any fun p => decide (p.1 = k) := rfl
  rw [e2]
  split
  · rw [List.map_map, List.map_map]
    congr 1; funext p
    show (if p.1 = k then (p.1, V.int v) else iv p) = iv (if p.1 = k then (p.1, v) else p)
    split <;> rfl
  · rw [List.map_append]; rfl
theorem lkN_some {m : List (Int × Int)} {k v : Int} (h : lkN m k = some v) : (k, v) ∈ m := by
  unfold lkN at h
  cases e : m.find? fun p => decide (p.1 = k) with
  | none => rw [e] at h; cases h
  | some p =>
    rw [e] at h
    have h1 : p.2 = v := Option.some.inj h
    have h2 : p.1 = k := by have := List.find?_some e; simpa using this
    rw [← h1, ← h2]
    exact List.mem_of_find?_eq_some e
theorem lkN_mem {m : List (Int × Int)} (nd : (m.map (·.1)).Nodup) {k v : Int} (h : (k, v) ∈ m) : lkN m k = some v := by
  induction m with
  | nil => cases h
  | cons a r ih =>
    rw [List.map_cons, List.nodup_cons] at nd
    unfold lkN
    rw [List.find?_cons]
    rcases List.mem_cons.mp h with e | h
    · subst e; rw [decide_eq_true rfl]; rfl
    · have ne : ¬ a.1 = k := fun z => nd.1 (z ▸ List.mem_map.mpr ⟨_, h, rfl⟩)
      rw [decide_eq_false ne]; exact ih nd.2 h
theorem lkN_none {m : List (Int × Int)} {k : Int} : lkN m k = none ↔ k ∉ m.map (·.1) := by
  unfold lkN
  rw [Option.map_eq_none_iff, List.find?_eq_none]
  constructor
  · intro h z
    obtain ⟨p, hp, e⟩ := List.mem_map.mp z
    exact h p hp (decide_eq_true e)
  · intro h p hp e
    exact h (List.mem_map.mpr ⟨p, hp, of_decide_eq_true e⟩)
theorem any_key {m : List (Int × Int)} {k : Int} : (m.any fun p => decide (p.1 = k)) = true ↔ k ∈ m.map (·.1) := by
  rw [List.any_eq_true]
  constructor
  · rintro ⟨p, hp, e⟩; exact List.mem_map.mpr ⟨p, hp, of_decide_eq_true e⟩
  · intro h
    obtain ⟨p, hp, e⟩ := List.mem_map.mp h
    exact ⟨p, hp, decide_eq_true e⟩
theorem ptN_new {m : List (Int × Int)} {k v : Int} (h : k ∉ m.map (·.1)) : ptN m k v = m ++ [(k, v)] := by
  unfold ptN
  rw [if_neg (fun z => h (any_key.mp z))]
theorem ptN_len {m : List (Int × Int)} {k v : Int} : (ptN m k v).length ≤ m.length + 1 := by
  unfold ptN
  split <;> simp
theorem ptN_mem {m : List (Int × Int)} {k v : Int} {p : Int × Int} (h : p ∈ ptN m k v) : p = (k, v) ∨ (p ∈ m ∧ p.1 ≠ k) := by
  unfold ptN at h
  split at h
  · obtain ⟨q, hq, rfl⟩ := List.mem_map.mp h
    by_cases e : q.1 = k
    · rw [if_pos e, e]; exact .inl rfl
    · rw [if_neg e]; exact .inr ⟨hq, e⟩
  · rename_i c
    rcases List.mem_append.mp h with h | h
    · exact .inr ⟨h, fun e => c (any_key.mpr (List.mem_map.mpr ⟨p, h, e⟩))⟩
    · exact .inl (List.mem_singleton.mp h)
theorem ptN_keys {m : List (Int × Int)} {k v : Int} (nd : (m.map (·.1)).Nodup) : ((ptN m k v).map (·.1)).Nodup := by
  by_cases h : k ∈ m.map (·.1)
  · unfold ptN
    rw [if_pos (any_key.mpr h), List.map_map]
    have e : (fun x => x.1) ∘ (fun p : Int × Int => if p.1 = k then (p.1, v) else p) = fun p => p.1 := by
      funext p; show (if p.1 = k then (p.1, v) else p).1 = p.1; split <;> rfl
    rw [e]; exact nd
  · rw [ptN_new h, List.map_append, List.nodup_append]
    exact ⟨nd, by simp, fun a ha b hb e => h (by simp at hb; rw [← hb, ← e]; exact ha)⟩
/-- a value put, against the rest and the value at the end -/
theorem ptN_rest {m : List (Int × Int)} {k v : Int} (nd : (m.map (·.1)).Nodup) : (ptN m k v).length = (m.filter fun p => decide (p.1 ≠ k)).length + 1 := by
  by_cases h : k ∈ m.map (·.1)
  · unfold ptN
    rw [if_pos (any_key.mpr h), List.length_map]
    clear v
    induction m with
    | nil => simp at h
    | cons a r ih =>
      rw [List.map_cons, List.nodup_cons] at nd
      by_cases e : a.1 = k
      · have e2 : (r.filter fun p => decide (p.1 ≠ k)) = r := List.filter_eq_self.mpr fun p hp => decide_eq_true fun z => nd.1 (by rw [e, ← z]; exact List.mem_map.mpr ⟨p, hp, rfl⟩)
        rw [List.filter_cons_of_neg (by simp [e]), e2]; rfl
      · have h2 : k ∈ r.map (·.1) := by
          rw [List.map_cons] at h
          exact (List.mem_cons.mp h).resolve_left fun z => e z.symm
        rw [List.filter_cons_of_pos (by simp [e]), List.length_cons, List.length_cons, ih nd.2 h2]
  · have e2 : (m.filter fun p => decide (p.1 ≠ k)) = m := List.filter_eq_self.mpr fun p hp => decide_eq_true fun z => h (by rw [← z]; exact List.mem_map.mpr ⟨p, hp, rfl⟩)
    rw [ptN_new h, e2]; simp
variable {K : PySem.W.Frag} {σ : L2.St} {H : Hp} {D : Ends} {Q : VK} {v : V}
theorem dinN {a : Addr} {m : List (Int × Int)} {k : Int} (h : L2.Rd H a (DN m)) (q : Q (.bl (lkN m k).isSome) H) : DinG Q (.ref a) (.int k) H := dinI h (by rw [lk_iv, Option.isSome_map]; exact q)
theorem dnotN {a : Addr} {m : List (Int × Int)} {k : Int} (h : L2.Rd H a (DN m)) (q : Q (.bl (!(lkN m k).isSome)) H) : DnotG Q (.ref a) (.int k) H := dnotI h (by rw [lk_iv, Option.isSome_map]; exact q)
theorem dgetN {a : Addr} {m : List (Int × Int)} {k n : Int} (h : L2.Rd H a (DN m)) (e : lkN m k = some n) (q : Q (.int n) H) : DgG Q (.ref a) (.int k) H := dgetI h (by rw [lk_iv, e]; rfl) q
theorem dget2N {a : Addr} {m : List (Int × Int)} {k z : Int} (h : L2.Rd H a (DN m)) (q : Q (.int ((lkN m k).getD z)) H) : Dg2G Q a (.int k) (.int z) H := dget2I h (by
  rw [lk_iv]
  cases e : lkN m k with
  | none => rw [e] at q; exact q
  | some n => rw [e] at q; exact q)
theorem dputN {a : Addr} {m : List (Int × Int)} {k n : Int} (h : H a = some (DN m)) (l : m.length < 100000) (q : D.nx σ (upd H a (DN (ptN m k n)))) : DpG D σ (.ref a) (.int k) (.int n) H :=
  dputI h (by rw [List.length_map]; exact l) (by rw [pt_iv]; exact q)
theorem neDictN {a b : Addr} {m n : List (Int × Int)} (ea : H a = some (DN m)) (eb : H b = some (DN n)) (l : m.length = n.length) (e : ∀ p ∈ m, lkN n p.1 = some p.2) (q : Q (.bl false) H) : rNeDA (.ref a) (.ref b) H Q :=
  neDict ea eb (by rw [List.length_map, List.length_map]; exact l) (fun p hp => by
    obtain ⟨x, hx, rfl⟩ := List.mem_map.mp hp
    exact ⟨by rw [lk_iv, e x hx]; rfl, rfl⟩) q
theorem eqDictN {a b : Addr} {m n : List (Int × Int)} (ea : H a = some (DN m)) (eb : H b = some (DN n)) (l : m.length = n.length) (e : ∀ p ∈ m, lkN n p.1 = some p.2) (q : Q (.bl true) H) : rEqDA (.ref a) (.ref b) H Q :=
  eqDict ea eb (by rw [List.length_map, List.length_map]; exact l) (fun p hp => by
    obtain ⟨x, hx, rfl⟩ := List.mem_map.mp hp
    exact ⟨by rw [lk_iv, e x hx]; rfl, rfl⟩) q
theorem items_atN {m : List (Int × Int)} {i : Nat} {x : V} {H H' : Hp} (y : YPair (fun i => (((m.map iv).map fun p => ((Sum.inl p.1 : Key), p.2))[i]?).map fun kv => kV kv.1) (fun i => (((m.map iv).map fun p => ((Sum.inl p.1 : Key), p.2))[i]?).map Prod.snd) i H x H') :
    ∃ (T : Addr) (p : Int × Int), m[i]? = some p ∧ x = .ref T ∧ H T = none ∧ H' = upd H T (.tup [.int p.1, .int p.2]) := by
  obtain ⟨T, p, e, a, b, c⟩ := items_at y
  rw [List.getElem?_map] at e
  cases e2 : m[i]? with
  | none => rw [e2] at e; cases e
  | some q => rw [e2] at e; cases e; exact ⟨T, q, rfl, a, b, c⟩
theorem keys_atN {m : List (Int × Int)} {i : Nat} {x : V} {H H' : Hp} (y : H' = H ∧ ∃ k v, ((m.map iv).map fun p => ((Sum.inl p.1 : Key), p.2))[i]? = some (k, v) ∧ x = kV k) : H' = H ∧ ∃ p : Int × Int, m[i]? = some p ∧ x = .int p.1 := by
  obtain ⟨e0, p, e, a⟩ := keys_at y
  rw [List.getElem?_map] at e
  cases e2 : m[i]? with
  | none => rw [e2] at e; cases e
  | some q => rw [e2] at e; cases e; exact ⟨e0, q, rfl, a⟩
end Rd

set_option Elab.async false
set_option linter.all false
set_option maxRecDepth 100000
set_option maxHeartbeats 4000000

namespace Mine
open PySem PySem.Spec PyProof.Rows L2 Rd
local macro_rules | `(tactic| walk_at "my rn") => `(tactic| (repeat (first | with_reducible refine Rd.dnew ?_ | with_reducible refine Rd.din ?_ | with_reducible refine Rd.dnot ?_ | with_reducible refine Rd.dget ?_ | with_reducible refine Rd.dget2 ?_ | with_reducible refine Rd.dput ?_ | with_reducible refine Rd.cbDictOf ?_ | with_reducible refine Rd.iitems ?_ | with_reducible refine Rd.ikeys ?_ | with_reducible refine Rd.dc ?_ | with_reducible refine Rd.nwD ?_ | with_reducible refine Rd.tupN ?_ | with_reducible refine Rd.lstN ?_ | with_reducible refine Rd.cbListOf ?_ | with_reducible refine Rd.cbListOfR ?_ | with_reducible refine Rd.catI ?_ | with_reducible refine Rd.slN ?_ | with_reducible refine Rd.cbSrtI ?_ | with_reducible refine Rd.seq ?_ | with_reducible refine Rd.next ?_ | with_reducible refine Rd.brk ?_ | with_reducible refine Rd.cont ?_ | with_reducible refine Rd.asg ?_ | with_reducible refine Rd.ret ?_ | with_reducible refine Rd.retN ?_ | with_reducible refine Rd.drop ?_ | with_reducible refine Rd.ifs ?_ | with_reducible refine Rd.ife ?_ | with_reducible refine Rd.test ?_ | with_reducible refine Rd.tb_ ?_ | with_reducible refine Rd.bl ?_ | with_reducible refine Rd.bl2 ?_ | with_reducible refine Rd.and_ ?_ | with_reducible refine Rd.or_ ?_ | with_reducible refine Rd.not_ ?_ | with_reducible refine Rd.andV ?_ | with_reducible refine Rd.orV ?_ | with_reducible refine Rd.notV ?_ | with_reducible refine Rd.op ?_ | with_reducible refine Rd.un ?_ | with_reducible refine Rd.I0 ?_ | with_reducible refine Rd.U ?_ | with_reducible refine Rd.ip ?_ | with_reducible refine Rd.c_ ?_ | with_reducible refine Rd.nil ?_ | with_reducible refine Rd.cons ?_ | with_reducible refine Rd.call ?_ | with_reducible refine Rd.cb ?_ | with_reducible refine Rd.bm ?_ | with_reducible refine Rd.bm0 ?_ | with_reducible refine Rd.nopart ?_ | with_reducible refine Rd.part ?_ | with_reducible refine Rd.int1 ?_ | with_reducible refine Rd.ints1 ?_ | with_reducible refine Rd.ints2 ?_ | with_reducible refine Rd.gcons ?_ | with_reducible refine Rd.gnil ?_ | with_reducible refine Rd.sub ?_ | with_reducible refine Rd.isN ?_ | with_reducible refine Rd.chain ?_ | with_reducible refine Rd.rf ?_ | with_reducible refine Rd.tyS ?_ | with_reducible refine Rd.intI ?_ | with_reducible refine Rd.lc ?_ | with_reducible refine Rd.for_ ?_ | with_reducible refine Rd.ilist ?_ | with_reducible refine Rd.itup ?_ | with_reducible refine Rd.irng1 ?_ | with_reducible refine Rd.irng2 ?_ | with_reducible refine Rd.ienum ?_ | with_reducible refine Rd.istr ?_ | with_reducible refine Rd.refA ?_ | with_reducible refine Rd.strA ?_ | with_reducible refine Rd.yes ?_ | with_reducible refine Rd.ifT ?_ | with_reducible refine Rd.ifF ?_ | with_reducible refine Rd.ifnT ?_ | with_reducible refine Rd.ifnF ?_ | with_reducible refine Rd.isi_ii ?_ | with_reducible refine Rd.isi_ib ?_ | with_reducible refine Rd.isi_is ?_ | with_reducible refine Rd.isi_il ?_ | with_reducible refine Rd.isi_it ?_ | with_reducible refine Rd.isi_id ?_ | with_reducible refine Rd.isi_bi ?_ | with_reducible refine Rd.isi_bb ?_ | with_reducible refine Rd.isi_bs ?_ | with_reducible refine Rd.isi_bl ?_ | with_reducible refine Rd.isi_bt ?_ | with_reducible refine Rd.isi_bd ?_ | with_reducible refine Rd.isi_si ?_ | with_reducible refine Rd.isi_sb ?_ | with_reducible refine Rd.isi_ss ?_ | with_reducible refine Rd.isi_sl ?_ | with_reducible refine Rd.isi_st ?_ | with_reducible refine Rd.isi_sd ?_ | with_reducible refine Rd.isi_ni ?_ | with_reducible refine Rd.isi_nb ?_ | with_reducible refine Rd.isi_ns ?_ | with_reducible refine Rd.isi_nl ?_ | with_reducible refine Rd.isi_nt ?_ | with_reducible refine Rd.isi_nd ?_ | with_reducible refine Rd.sl ?_ | with_reducible refine Rd.v0 ?_ | with_reducible refine Rd.v1 ?_ | with_reducible refine Rd.v2 ?_ | with_reducible refine Rd.v3 ?_ | with_reducible refine Rd.v4 ?_ | with_reducible refine Rd.v5 ?_ | with_reducible refine Rd.v6 ?_ | with_reducible refine Rd.v7 ?_ | with_reducible refine Rd.v8 ?_ | with_reducible refine Rd.v9 ?_ | with_reducible refine Rd.v10 ?_ | with_reducible refine Rd.v11 ?_ | with_reducible refine Rd.v12 ?_ | with_reducible refine Rd.v13 ?_ | with_reducible refine Rd.v14 ?_ | with_reducible refine Rd.v15 ?_ | with_reducible refine Rd.v16 ?_ | with_reducible refine Rd.v17 ?_ | with_reducible refine Rd.v18 ?_ | with_reducible refine Rd.v19 ?_ | with_reducible refine Rd.v20 ?_ | with_reducible refine Rd.v21 ?_ | with_reducible refine Rd.v22 ?_ | with_reducible refine Rd.v23 ?_ | with_reducible refine Rd.v24 ?_ | with_reducible refine Rd.v25 ?_ | with_reducible refine Rd.v26 ?_ | with_reducible refine Rd.v27 ?_ | with_reducible refine Rd.n0 ?_ | with_reducible refine Rd.n1 ?_ | with_reducible refine Rd.n2 ?_ | with_reducible refine Rd.n3 ?_ | with_reducible refine Rd.n4 ?_ | with_reducible refine Rd.n5 ?_ | with_reducible refine Rd.n6 ?_ | with_reducible refine Rd.n7 ?_ | with_reducible refine Rd.n8 ?_ | with_reducible refine Rd.n9 ?_ | with_reducible refine Rd.n10 ?_ | with_reducible refine Rd.n11 ?_ | with_reducible refine Rd.n12 ?_ | with_reducible refine Rd.n13 ?_ | with_reducible refine Rd.n14 ?_ | with_reducible refine Rd.n15 ?_ | with_reducible refine Rd.n16 ?_ | with_reducible refine Rd.n17 ?_ | with_reducible refine Rd.n18 ?_ | with_reducible refine Rd.n19 ?_ | with_reducible refine Rd.n20 ?_ | with_reducible refine Rd.n21 ?_ | with_reducible refine Rd.n22 ?_ | with_reducible refine Rd.n23 ?_ | with_reducible refine Rd.n24 ?_ | with_reducible refine Rd.n25 ?_ | with_reducible refine Rd.n26 ?_ | with_reducible refine Rd.n27 ?_ | with_reducible refine Rd.g0 ?_ | with_reducible refine Rd.g1 ?_ | with_reducible refine Rd.g2 ?_ | with_reducible refine Rd.g3 ?_ | with_reducible refine Rd.g4 ?_ | with_reducible refine Rd.g5 ?_ | with_reducible refine Rd.g6 ?_ | with_reducible refine Rd.g7 ?_ | with_reducible refine Rd.g8 ?_ | with_reducible refine Rd.g9 ?_ | with_reducible refine Rd.g10 ?_ | with_reducible refine Rd.g11 ?_ | with_reducible refine Rd.g12 ?_ | with_reducible refine Rd.g13 ?_ | with_reducible refine Rd.g14 ?_ | with_reducible refine Rd.g15 ?_ | with_reducible refine Rd.g16 ?_ | with_reducible refine Rd.g17 ?_ | with_reducible refine Rd.g18 ?_ | with_reducible refine Rd.g19 ?_ | with_reducible refine Rd.g20 ?_ | with_reducible refine Rd.g21 ?_ | with_reducible refine Rd.g22 ?_ | with_reducible refine Rd.g23 ?_ | with_reducible refine Rd.g24 ?_ | with_reducible refine Rd.g25 ?_ | with_reducible refine Rd.g26 ?_ | with_reducible refine Rd.g27 ?_ | ((with_reducible refine Rd.eq ?_ ?_); exact rfl) | ((with_reducible refine Rd.ne ?_ ?_); exact rfl) | ((with_reducible refine Rd.szA ?_ ?_); exact Nat.le_of_ble_eq_true rfl) | ((with_reducible refine Rd.I ?_ ?_); first | assumption | decide | exact Or.inr (by decide +kernel) | exact Or.inl (by decide +kernel) | exact ⟨by decide, by decide⟩ | exact ⟨by decide, by decide, by decide⟩ | omega) | ((with_reducible apply Rd.tyL); first | assumption | exact upd_same) | ((with_reducible apply Rd.tyLq); assumption) | ((with_reducible apply Rd.ixL); (first | assumption | exact upd_same); exact rfl) | ((with_reducible apply Rd.ixT); (first | assumption | exact upd_same); exact rfl) | ((with_reducible apply Rd.ixLq); assumption; exact rfl) | ((with_reducible apply Rd.ixTq); assumption; exact rfl) | ((with_reducible apply Rd.gtup); (first | assumption | exact upd_same); exact rfl) | ((with_reducible apply Rd.gtupq); assumption; exact rfl) | ((with_reducible apply Rd.sqAq); assumption) | ((with_reducible apply Rd.stAq); assumption) | ((with_reducible apply Rd.enAq); assumption) | ((with_reducible apply Rd.lenLq); assumption) | ((with_reducible apply Rd.lenTq); assumption) | ((with_reducible apply Rd.sqA); first | assumption | exact upd_same) | ((with_reducible apply Rd.stA); first | assumption | exact upd_same) | ((with_reducible apply Rd.enA); first | assumption | exact upd_same) | ((with_reducible apply Rd.lenL); first | assumption | exact upd_same) | ((with_reducible apply Rd.lenT); first | assumption | exact upd_same) | ((with_reducible refine Rd.nwT ?_ ?_); exact Nat.le_of_ble_eq_true rfl) | ((with_reducible refine Rd.nwL ?_ ?_); exact Nat.le_of_ble_eq_true rfl) | ((with_reducible apply Rd.isd); assumption) | ((with_reducible apply Rd.dictOf); assumption) | ((with_reducible refine Rd.isi_dd (by assumption) ?_)) | ((with_reducible apply Rd.itA); first | assumption | exact upd_same) | ((with_reducible apply Rd.ikA); first | assumption | exact upd_same) | ((with_reducible apply Rd.listOf); assumption) | ((with_reducible apply Rd.listOfq); assumption) | ((with_reducible apply Rd.slo); assumption) | ((with_reducible apply Rd.slq); assumption) | ((with_reducible apply Rd.srtI); assumption) | ((with_reducible apply Rd.srtIo); assumption) | ((with_reducible refine Rd.isi_li (by assumption) ?_)) | ((with_reducible refine Rd.isi_lb (by assumption) ?_)) | ((with_reducible refine Rd.isi_ls (by assumption) ?_)) | ((with_reducible refine Rd.isi_ll (by assumption) ?_)) | ((with_reducible refine Rd.isi_lt (by assumption) ?_)) | ((with_reducible refine Rd.isi_ld (by assumption) ?_)) | ((with_reducible refine Rd.isi_ti (by assumption) ?_)) | ((with_reducible refine Rd.isi_tb (by assumption) ?_)) | ((with_reducible refine Rd.isi_ts (by assumption) ?_)) | ((with_reducible refine Rd.isi_tl (by assumption) ?_)) | ((with_reducible refine Rd.isi_tt (by assumption) ?_)) | ((with_reducible refine Rd.isi_td (by assumption) ?_)))))
def topS (i : Nat) : Stmt := PySem.Challenge.pw_deadbeat_k34_what_is_known_stays_true.main.body.getD i (.Pass ⟨0, 0, 0, 0⟩)
abbrev s_use_line : Stmt := topS 1
theorem sc_use_line : FnScope ["shape", "known", "number", "_", "ways", "age", "ages"] ["shape", "known", "number"] (defScope s_use_line) := ⟨rfl, rfl, rfl, by decide +kernel, rfl, by decide +kernel, by decide +kernel⟩
abbrev s_use_some : Stmt := topS 2
theorem sc_use_some : FnScope ["shape", "known", "numbers"] ["shape", "known", "numbers"] (defScope s_use_some) := ⟨rfl, rfl, rfl, by decide +kernel, rfl, by decide +kernel, by decide +kernel⟩
abbrev s__older : Stmt := topS 3
theorem sc__older : FnScope ["shape", "known", "numbers", "limit", "sets", "ways", "_", "changed", "number", "ages", "line", "age"] ["shape", "known", "numbers", "limit"] (defScope s__older) := ⟨rfl, rfl, rfl, by decide +kernel, rfl, by decide +kernel, by decide +kernel⟩
abbrev s_meet : Stmt := topS 4
theorem sc_meet : FnScope ["known", "other", "line", "age"] ["known", "other"] (defScope s_meet) := ⟨rfl, rfl, rfl, by decide +kernel, rfl, by decide +kernel, by decide +kernel⟩
abbrev s__law_cell : Stmt := topS 6
theorem sc__law_cell : FnScope ["script", "k"] ["script", "k"] (defScope s__law_cell) := ⟨rfl, rfl, rfl, by decide +kernel, rfl, by decide +kernel, by decide +kernel⟩
abbrev s__law_mixed : Stmt := topS 7
theorem sc__law_mixed : FnScope ["seed", "k"] ["seed", "k"] (defScope s__law_mixed) := ⟨rfl, rfl, rfl, by decide +kernel, rfl, by decide +kernel, by decide +kernel⟩
abbrev s__law_rich : Stmt := topS 8
theorem sc__law_rich : FnScope ["cell", "k", "once"] ["cell", "k"] (defScope s__law_rich) := ⟨rfl, rfl, rfl, by decide +kernel, rfl, by decide +kernel, by decide +kernel⟩
abbrev s__law_wide : Stmt := topS 9
theorem sc__law_wide : FnScope ["script", "k"] ["script", "k"] (defScope s__law_wide) := ⟨rfl, rfl, rfl, by decide +kernel, rfl, by decide +kernel, by decide +kernel⟩
abbrev s__law_contents : Stmt := topS 10
theorem sc__law_contents : FnScope ["sets", "ways", "seed", "rows", "k", "row", "j", "line"] ["sets", "ways", "seed"] (defScope s__law_contents) := ⟨rfl, rfl, rfl, by decide +kernel, rfl, by decide +kernel, by decide +kernel⟩
abbrev s__law_known : Stmt := topS 11
theorem sc__law_known : FnScope ["rows", "ways", "seed", "known", "k", "j", "age"] ["rows", "ways", "seed"] (defScope s__law_known) := ⟨rfl, rfl, rfl, by decide +kernel, rfl, by decide +kernel, by decide +kernel⟩
abbrev s__law_true : Stmt := topS 12
theorem sc__law_true : FnScope ["known", "rows", "sets", "line", "age", "row"] ["known", "rows", "sets"] (defScope s__law_true) := ⟨rfl, rfl, rfl, by decide +kernel, rfl, by decide +kernel, by decide +kernel⟩
abbrev s__law_used : Stmt := topS 13
theorem sc__law_used : FnScope ["rows", "sets", "ways", "line", "after", "row", "kept", "one"] ["rows", "sets", "ways", "line"] (defScope s__law_used) := ⟨rfl, rfl, rfl, by decide +kernel, rfl, by decide +kernel, by decide +kernel⟩
abbrev s__law_aged : Stmt := topS 14
theorem sc__law_aged : FnScope ["known", "sets", "ways", "touched", "limit", "without", "due", "line", "age"] ["known", "sets", "ways", "touched", "limit", "without"] (defScope s__law_aged) := ⟨rfl, rfl, rfl, by decide +kernel, rfl, by decide +kernel, by decide +kernel⟩
abbrev s__law_due_line : Stmt := topS 15
theorem sc__law_due_line : FnScope ["known", "sets", "ways", "line", "limit", "due"] ["known", "sets", "ways", "line"] (defScope s__law_due_line) := ⟨rfl, rfl, rfl, by decide +kernel, rfl, by decide +kernel, by decide +kernel⟩
abbrev s_law : Stmt := topS 16
theorem sc_law : FnScope ["script", "draw", "ways", "sets", "shape", "seed", "rows", "known", "other", "lines", "k", "at", "kept", "kept_lines", "told", "several", "due", "line", "common"] ["script"] (defScope s_law) := ⟨rfl, rfl, rfl, by decide +kernel, rfl, by decide +kernel, by decide +kernel⟩
structure Top (K : PySem.W.Frag) (mg : Str → Option Value) where
  a_use_line : Addr
  d_use_line : FuncData
  F_use_line : Fun K "use_line" "use_line" s_use_line a_use_line d_use_line
  g_use_line : mg "use_line" = some (.ref a_use_line)
  b_use_line : Binds K d_use_line ["shape", "known", "number"] []
  a_use_some : Addr
  d_use_some : FuncData
  F_use_some : Fun K "use_some" "use_some" s_use_some a_use_some d_use_some
  g_use_some : mg "use_some" = some (.ref a_use_some)
  b_use_some : Binds K d_use_some ["shape", "known", "numbers"] []
  a__older : Addr
  d__older : FuncData
  F__older : Fun K "_older" "_older" s__older a__older d__older
  g__older : mg "_older" = some (.ref a__older)
  b__older : Binds K d__older ["shape", "known", "numbers", "limit"] []
  a_meet : Addr
  d_meet : FuncData
  F_meet : Fun K "meet" "meet" s_meet a_meet d_meet
  g_meet : mg "meet" = some (.ref a_meet)
  b_meet : Binds K d_meet ["known", "other"] []
  a__law_cell : Addr
  d__law_cell : FuncData
  F__law_cell : Fun K "_law_cell" "_law_cell" s__law_cell a__law_cell d__law_cell
  g__law_cell : mg "_law_cell" = some (.ref a__law_cell)
  b__law_cell : Binds K d__law_cell ["script", "k"] []
  a__law_mixed : Addr
  d__law_mixed : FuncData
  F__law_mixed : Fun K "_law_mixed" "_law_mixed" s__law_mixed a__law_mixed d__law_mixed
  g__law_mixed : mg "_law_mixed" = some (.ref a__law_mixed)
  b__law_mixed : Binds K d__law_mixed ["seed", "k"] []
  a__law_rich : Addr
  d__law_rich : FuncData
  F__law_rich : Fun K "_law_rich" "_law_rich" s__law_rich a__law_rich d__law_rich
  g__law_rich : mg "_law_rich" = some (.ref a__law_rich)
  b__law_rich : Binds K d__law_rich ["cell", "k"] []
  a__law_wide : Addr
  d__law_wide : FuncData
  F__law_wide : Fun K "_law_wide" "_law_wide" s__law_wide a__law_wide d__law_wide
  g__law_wide : mg "_law_wide" = some (.ref a__law_wide)
  b__law_wide : Binds K d__law_wide ["script", "k"] []
  a__law_contents : Addr
  d__law_contents : FuncData
  F__law_contents : Fun K "_law_contents" "_law_contents" s__law_contents a__law_contents d__law_contents
  g__law_contents : mg "_law_contents" = some (.ref a__law_contents)
  b__law_contents : Binds K d__law_contents ["sets", "ways", "seed"] []
  a__law_known : Addr
  d__law_known : FuncData
  F__law_known : Fun K "_law_known" "_law_known" s__law_known a__law_known d__law_known
  g__law_known : mg "_law_known" = some (.ref a__law_known)
  b__law_known : Binds K d__law_known ["rows", "ways", "seed"] []
  a__law_true : Addr
  d__law_true : FuncData
  F__law_true : Fun K "_law_true" "_law_true" s__law_true a__law_true d__law_true
  g__law_true : mg "_law_true" = some (.ref a__law_true)
  b__law_true : Binds K d__law_true ["known", "rows", "sets"] []
  a__law_used : Addr
  d__law_used : FuncData
  F__law_used : Fun K "_law_used" "_law_used" s__law_used a__law_used d__law_used
  g__law_used : mg "_law_used" = some (.ref a__law_used)
  b__law_used : Binds K d__law_used ["rows", "sets", "ways", "line"] []
  a__law_aged : Addr
  d__law_aged : FuncData
  F__law_aged : Fun K "_law_aged" "_law_aged" s__law_aged a__law_aged d__law_aged
  g__law_aged : mg "_law_aged" = some (.ref a__law_aged)
  b__law_aged : Binds K d__law_aged ["known", "sets", "ways", "touched", "limit", "without"] []
  a__law_due_line : Addr
  d__law_due_line : FuncData
  F__law_due_line : Fun K "_law_due_line" "_law_due_line" s__law_due_line a__law_due_line d__law_due_line
  g__law_due_line : mg "_law_due_line" = some (.ref a__law_due_line)
  b__law_due_line : Binds K d__law_due_line ["known", "sets", "ways", "line"] []
  a_law : Addr
  d_law : FuncData
  F_law : Fun K "law" "law" s_law a_law d_law
  g_law : mg "law" = some (.ref a_law)
  b_law : Binds K d_law ["script"] []
  m_set : mg "set" = none
  m_len : mg "len" = none
  m_max : mg "max" = none
  m_int : mg "int" = none
  m_range : mg "range" = none
  m_min : mg "min" = none
  m_bool : mg "bool" = none
  m_isinstance : mg "isinstance" = none
  m_dict : mg "dict" = none
  m_list : mg "list" = none
/-! ### what == and index compare: data under an object -/
def DOk (n : Nat) (d : PyData) : Prop := d.canLay0 = true ∧ d.depth ≤ n
theorem DOk.shaped {n : Nat} {d : PyData} (h : DOk n d) (hn : n ≤ 64) : SeqAt.shaped d = true := by
  unfold SeqAt.shaped
  rw [h.1, decide_eq_true (Nat.le_trans h.2 hn)]
  rfl
theorem DOk.mono {n m : Nat} {d : PyData} (h : DOk n d) (hn : n ≤ m) : DOk m d := ⟨h.1, Nat.le_trans h.2 hn⟩
theorem dok_int {n : Nat} {i : Int} : DOk n (.int i) := ⟨by simp only [PyData.canLay0], by simp only [PyData.depth]; exact Nat.zero_le _⟩
theorem dok_non {n : Nat} : DOk n .none := ⟨by simp only [PyData.canLay0], by simp only [PyData.depth]; exact Nat.zero_le _⟩
theorem dok_bl {n : Nat} {b : Bool} : DOk n (.bool b) := ⟨by simp only [PyData.canLay0], by simp only [PyData.depth]; exact Nat.zero_le _⟩
theorem dok_str {n : Nat} {x : Str} (h : PyData.strOk x = true) : DOk n (.str x) := ⟨by simp only [PyData.canLay0]; exact h, by simp only [PyData.depth]; exact Nat.zero_le _⟩
theorem dok_all {n : Nat} : ∀ {ds : List PyData}, (∀ d ∈ ds, DOk n d) → PyData.canLayAll0 ds = true ∧ PyData.depthAll ds ≤ n
  | [], _ => ⟨by simp only [PyData.canLayAll0], by simp only [PyData.depthAll]; exact Nat.zero_le _⟩
  | d :: r, h => by
    obtain ⟨a, b⟩ := dok_all (ds := r) fun x m => h x (List.mem_cons_of_mem _ m)
    obtain ⟨c, e⟩ := h d List.mem_cons_self
    exact ⟨by simp only [PyData.canLayAll0, c, a] <;> rfl, by simp only [PyData.depthAll]; omega⟩
theorem dok_list {n : Nat} {ds : List PyData} (h : ∀ d ∈ ds, DOk n d) : DOk (n + 1) (.list ds) := by
  obtain ⟨a, b⟩ := dok_all h
  exact ⟨by simp only [PyData.canLay0]; exact a, by simp only [PyData.depth]; omega⟩
theorem dok_tup {n : Nat} {ds : List PyData} (h : ∀ d ∈ ds, DOk n d) : DOk (n + 1) (.tuple ds) := by
  obtain ⟨a, b⟩ := dok_all h
  exact ⟨by simp only [PyData.canLay0]; exact a, by simp only [PyData.depth]; omega⟩
theorem dpAll_map {K : PySem.W.Frag} {H : Hp} (f : V → PyData) : ∀ {zs : List V}, (∀ v ∈ zs, Dp K H v (f v)) → DpAll K H zs (zs.map f)
  | [], _ => .nil
  | z :: r, h => .cons (h z List.mem_cons_self) (dpAll_map f fun v m => h v (List.mem_cons_of_mem _ m))
theorem dpAll_ints {K : PySem.W.Frag} {H : Hp} : ∀ {ns : List Int}, DpAll K H (ns.map V.int) (ns.map PyData.int)
  | [] => .nil
  | n :: r => .cons (.int n) dpAll_ints
theorem dp_ints {K : PySem.W.Frag} {H : Hp} {a : Addr} {ns : List Int} (h : SqL K H a (ns.map V.int)) : Dp K H (.ref a) (.list (ns.map PyData.int)) := .lst h dpAll_ints
theorem dp_intsT {K : PySem.W.Frag} {H : Hp} {a : Addr} {ns : List Int} (h : SqT K H a (ns.map V.int)) : Dp K H (.ref a) (.tuple (ns.map PyData.int)) := .tup h dpAll_ints
theorem ints_dok (n : Nat) (ns : List Int) : DOk (n + 1) (.list (ns.map PyData.int)) := dok_list fun d m => by
  obtain ⟨i, _, rfl⟩ := List.mem_map.mp m
  exact dok_int
theorem ints_shaped (ns : List Int) : SeqAt.shaped (.list (ns.map PyData.int)) = true := (ints_dok 0 ns).shaped (by decide)
theorem eqvAll_ints : ∀ ns ms : List Int, PyData.eqvAll (ns.map PyData.int) (ms.map PyData.int) = decide (ns = ms)
  | [], [] => by simp [PyData.eqvAll]
  | [], b :: s => by simp [PyData.eqvAll]
  | a :: r, [] => by simp [PyData.eqvAll]
  | a :: r, b :: s => by
    rw [List.map_cons, List.map_cons, PyData.eqvAll, eqvAll_ints r s, PyData.eqv]
    by_cases h : a = b <;> by_cases h2 : r = s <;> simp [h, h2]
theorem eqv_ints (ns ms : List Int) : PyData.eqv (.list (ns.map PyData.int)) (.list (ms.map PyData.int)) = decide (ns = ms) := by
  rw [PyData.eqv, eqvAll_ints]
theorem eqv_intsT (ns ms : List Int) : PyData.eqv (.tuple (ns.map PyData.int)) (.tuple (ms.map PyData.int)) = decide (ns = ms) := by
  rw [PyData.eqv, eqvAll_ints]

/-! ### deadbeat.must: what is known of a cache -/
def agedP (S W lim : Int) (tch : List Int) (p : Int × Int) : Option (Int × Int) :=
  let a := if p.1 % S ∈ tch ∧ p.2 < lim then p.2 + 1 else p.2
  if a < W then some (p.1, a) else none
def older (S W lim : Int) (tch : List Int) (m : List (Int × Int)) : List (Int × Int) := m.filterMap (agedP S W lim tch)
def useLine (S W : Int) (m : List (Int × Int)) (n : Int) : List (Int × Int) := ptN (older S W ((lkN m n).getD W) [n % S] m) n 0
def useSome (S W : Int) (m : List (Int × Int)) (ns : List Int) : List (Int × Int) := if distinct ns = 1 then useLine S W m (ns.headD 0) else older S W W (ns.map (· % S)) m
def meetOf (m o : List (Int × Int)) : List (Int × Int) := m.filterMap fun p => (lkN o p.1).map fun b => (p.1, if b > p.2 then b else p.2)
theorem agedP_key {S W lim : Int} {tch : List Int} {p q : Int × Int} (h : agedP S W lim tch p = some q) : q.1 = p.1 := by
  unfold agedP at h
  by_cases c : (if p.1 % S ∈ tch ∧ p.2 < lim then p.2 + 1 else p.2) < W
  · rw [if_pos c] at h
    rw [← Option.some.inj h]
  · rw [if_neg c] at h; cases h
theorem fm_keys {f : Int × Int → Option (Int × Int)} (hf : ∀ p q, f p = some q → q.1 = p.1) : ∀ {m : List (Int × Int)}, (m.map (·.1)).Nodup → ((m.filterMap f).map (·.1)).Nodup
  | [], _ => by simp
  | a :: r, nd => by
    rw [List.map_cons, List.nodup_cons] at nd
    rw [List.filterMap_cons]
    cases e : f a with
    | none => exact fm_keys hf nd.2
    | some b =>
      rw [List.map_cons, List.nodup_cons]
      refine ⟨fun h => ?_, fm_keys hf nd.2⟩
      obtain ⟨q, hq, e2⟩ := List.mem_map.mp h
      obtain ⟨p, hp, e3⟩ := List.mem_filterMap.mp hq
      rw [hf _ _ e] at e2
      exact nd.1 (List.mem_map.mpr ⟨p, hp, by rw [← hf _ _ e3, e2]⟩)
theorem older_keys {S W lim : Int} {tch : List Int} {m : List (Int × Int)} (nd : (m.map (·.1)).Nodup) : ((older S W lim tch m).map (·.1)).Nodup := fm_keys (fun _ _ => agedP_key) nd
theorem older_len {S W lim : Int} {tch : List Int} {m : List (Int × Int)} : (older S W lim tch m).length ≤ m.length := List.length_filterMap_le _ _
theorem fm_take {f : Int × Int → Option (Int × Int)} {m : List (Int × Int)} {i : Nat} {p : Int × Int} (h : m[i]? = some p) : (m.take (i + 1)).filterMap f = (m.take i).filterMap f ++ (f p).toList := by
  rw [List.take_add_one, h, List.filterMap_append]
  cases e : f p <;> simp [e]
theorem fm_fresh {f : Int × Int → Option (Int × Int)} (hf : ∀ p q, f p = some q → q.1 = p.1) {m : List (Int × Int)} (nd : (m.map (·.1)).Nodup) {i : Nat} {p : Int × Int} (h : m[i]? = some p) : p.1 ∉ ((m.take i).filterMap f).map (·.1) := by
  intro z
  obtain ⟨q, hq, e⟩ := List.mem_map.mp z
  obtain ⟨r, hr, e2⟩ := List.mem_filterMap.mp hq
  obtain ⟨j, hj⟩ := List.mem_iff_getElem?.mp hr
  have hji : j < i := by
    have := (List.getElem?_eq_some_iff.mp hj).1
    rw [List.length_take] at this; omega
  rw [List.getElem?_take_of_lt hji] at hj
  have e3 : r.1 = p.1 := by rw [← hf _ _ e2, e]
  have k1 : (m.map (·.1))[j]? = some p.1 := by rw [List.getElem?_map, hj]; exact congrArg some e3
  have k2 : (m.map (·.1))[i]? = some p.1 := by rw [List.getElem?_map, h]; rfl
  have := (List.getElem?_inj (List.getElem?_eq_some_iff.mp k1).1 nd).mp (k1.trans k2.symm)
  omega
theorem older_step {S W lim : Int} {tch : List Int} {m : List (Int × Int)} {i : Nat} {p : Int × Int} (h : m[i]? = some p) : older S W lim tch (m.take (i + 1)) = older S W lim tch (m.take i) ++ (agedP S W lim tch p).toList := fm_take h
theorem older_fresh {S W lim : Int} {tch : List Int} {m : List (Int × Int)} (nd : (m.map (·.1)).Nodup) {i : Nat} {p : Int × Int} (h : m[i]? = some p) : p.1 ∉ (older S W lim tch (m.take i)).map (·.1) := fm_fresh (fun _ _ => agedP_key) nd h
theorem agedP_pos {S W lim : Int} {tch : List Int} {p : Int × Int} (c : (if p.1 % S ∈ tch ∧ p.2 < lim then p.2 + 1 else p.2) < W) : agedP S W lim tch p = some (p.1, if p.1 % S ∈ tch ∧ p.2 < lim then p.2 + 1 else p.2) := if_pos c
theorem agedP_neg {S W lim : Int} {tch : List Int} {p : Int × Int} (c : ¬ (if p.1 % S ∈ tch ∧ p.2 < lim then p.2 + 1 else p.2) < W) : agedP S W lim tch p = none := if_neg c
section
variable {P : Program} {w : World} {K : PySem.W.Frag} {mg : Str → Option Value} {base : Heap}
/-- a shape: a tuple of three ints -/
def ShapeAt (K : PySem.W.Frag) (H : Hp) (t : Addr) (S W L : Int) : Prop := SqT K H t [.int S, .int W, .int L]
def sp__older (K : PySem.W.Frag) : Sp := fun vs H Q _ => ∃ (t d l : Addr) (S W L lim : Int) (m : List (Int × Int)) (ns : List Int), vs = [.ref t, .ref d, .ref l, .int lim] ∧ ShapeAt K H t S W L ∧ 0 < S ∧ H d = some (DN m) ∧ (m.map (·.1)).Nodup ∧ m.length ≤ 1000 ∧
  H l = some (.lst (ns.map V.int)) ∧ ns.length ≤ 1000 ∧ ∀ (p : Addr) H', H p = none → Same H H' → H' p = some (DN (older S W lim (ns.map (· % S)) m)) → Q (.ref p) H'
theorem ok__older (T : Top K mg) : FnOk P w K mg base CX0 1 T.a__older T.d__older ["shape", "known", "numbers", "limit"]  (sp__older K) := by
  refine T.F__older.ok sc__older (fun vs H Q E h => ?_) (fun cdv A outer s H vs Q E hr h => ?_)
  · obtain ⟨_, _, _, _, _, _, _, _, _, rfl, _⟩ := h
    rfl
  · obtain ⟨t, d, l, S, W, L, lim, m, ns, rfl, hsh, hS, hd, nd, lm, hl, ln, q⟩ := h
    refine ⟨_, (pss_cons (ps_asg (pv 0) (pg_tup rfl (pgs_cons (pg_name (i := 4) sc__older.nd rfl (by first | exact Or.inl rfl | exact Or.inr rfl)) (pgs_cons (pg_name (i := 5) sc__older.nd rfl (by first | exact Or.inl rfl | exact Or.inr rfl)) (pgs_cons (pg_name (i := 6) sc__older.nd rfl (by first | exact Or.inl rfl | exact Or.inr rfl)) pgs_nil)))))
  (pss_cons (ps_setDc (i := 7) (own := [("number", 8)]) (g := gName 8) (tt := tYes) rfl sc__older.nd rfl rfl (sw_trueD rfl rfl rfl (by decide +kernel)) (pi_list (pv 2)) (blkOk_by (N := ["shape", "known", "numbers", "limit", "sets", "ways", "_", "changed", "number", "ages", "line", "age"]) (sc := defScope s__older) (by decide +kernel)) (fun _ _ _ _ _ => pg_name (i := 8) sc__older.nd rfl (Or.inl rfl)) (fun _ _ _ _ _ => pts_nil) (fun _ _ _ _ _ => (pe_op op_mod (pv 8) (pv 4))) (fun _ _ _ _ _ => pe_bl))
  (pss_cons (ps_set (i := 9) sc__older.nd rfl (by first | exact Or.inl rfl | exact Or.inr rfl) pe_dnewK)
  (pss_cons (ps_lock (ps_for PassesOwn.never rfl (pi_items (pv 1)) (pg_tup rfl (pgs_cons (pg_name (i := 10) sc__older.nd rfl (by first | exact Or.inl rfl | exact Or.inr rfl)) (pgs_cons (pg_name (i := 11) sc__older.nd rfl (by first | exact Or.inl rfl | exact Or.inr rfl)) pgs_nil)))
  (Evl.pss_cut (ps_if (pw_and (pt_cmp (pc_din (hu_of hr) (pe_op op_mod (pv 10) (pv 4)) (pv 7))) (pw_and1 (pt_cmpR op_lt (pv 11) (pv 3) (nomark _)))).pt
  (pss_one (ps_aug (i := 11) sc__older.nd rfl (by first | exact Or.inl rfl | exact Or.inr rfl) pe_int ip_add))
  pss_nil)
  (pss_one (ps_if (pt_cmpR op_lt (pv 11) (pv 5) (nomark _))
  (pss_one (ps_dput (hu_of hr) (pv 9) (pv 10) (pv 11) rfl))
  pss_nil)))))
  (pss_one (ps_ret (pv 9))))))), ?_⟩
    rw [show ∀ a0 a1 a2 a3 : V, L2.start ["shape", "known", "numbers", "limit", "sets", "ways", "_", "changed", "number", "ages", "line", "age"] [a0, a1, a2, a3] = [some a0, some a1, some a2, some a3, none, none, none, none, none, none, none, none] from fun _ _ _ _ => rfl]
    have hsh' : SqT K H t [.int S, .int W, .int L] := hsh
    walk_at "my rn"
    refine fun D nD => dc_it (walk_list (xs := ns.map V.int)) (fun i H' => But D H H' ∧ ∃ cm : List (Int × V), H' D = some (DI cm) ∧ cm.length ≤ i ∧ ∀ k, (lk cm k).isSome = decide (k ∈ (ns.take i).map (· % S)))
      ⟨lock, [], upd_same, Nat.le_refl _, fun k => by simp [lk]⟩ (fun i H' _ h => SqL.of ((h.1.to nD) _ _ hl)) (fun i x H1 H2 Kt Kn hi ⟨b, cm, hD, lc, hk⟩ y kt kn => ?_) (fun H1 ⟨b, cm, hD, lc, hk⟩ => ?_)
    · obtain ⟨rfl, hx⟩ := y
      rw [List.getElem?_map] at hx
      obtain ⟨n, hn, rfl⟩ : ∃ n, ns[i]? = some n ∧ V.int n = x := by
        cases e : ns[i]? with
        | none => rw [e] at hx; cases hx
        | some n => rw [e] at hx; exact ⟨n, rfl, Option.some.inj hx⟩
      simp only [List.map_cons, List.map_nil, L2.wipe, List.set_cons_succ, List.set_cons_zero]
      walk_at "my rn"
      refine ⟨rfl, ?_⟩
      walk_at "my rn"
      refine kt cm _ _ _ hD (by rw [List.length_map] at hi; omega) ⟨b.trans lock, _, upd_same, Nat.le_trans pt_len (Nat.succ_le_succ lc), fun k => ?_⟩
      rw [lk_pt, List.take_add_one, hn, List.map_append]
      by_cases h : k = n % S
      · rw [if_pos h, h]; simp
      · rw [if_neg h, hk k]
        simp [h]
    rw [List.length_map, List.take_of_length_le (Nat.le_refl _)] at hk
    have s1 := b.to nD
    walk_at "my rn"
    intro A H2 nA s2 hA
    have s02 := s1.trans s2
    have hd2 := s02 _ _ hd
    have hD2 := s2 _ _ hD
    have dA : d ≠ A := ne_of_none (s1 _ _ hd) nA
    have DA : D ≠ A := ne_of_none hD nA
    have dD : d ≠ D := ne_of_none hd nD
    walk_at "my rn"
    refine lockS hd2 fun od => ?_
    walk_at "my rn"
    obtain ⟨touch, etch⟩ : ∃ touch, touch = ns.map (· % S) := ⟨_, rfl⟩
    rw [← etch] at hk q
    refine for_it walk_items (fun i σ H' => H' d = some (.frz od (DN m)) ∧ (∀ b o, b ≠ d → b ≠ A → H2 b = some o → H' b = some o) ∧ H' A = some (DN (older S W lim touch (m.take i))) ∧
      ∃ y10 y11, σ = [some (.ref t), some (.ref d), some (.ref l), some (.int lim), some (.int S), some (.int W), some (.int L), some (.ref D), none, some (.ref A), y10, y11])
      ⟨upd_same, fun b o nb _ h => by rw [upd_ne nb]; exact h, by rw [upd_ne dA.symm]; exact hA, none, none, rfl⟩ (fun i σ H' _ h => h.1) ?_ ?_
    · rintro i x σ H3 H4 hi ⟨hf, k3, hA3, y10, y11, rfl⟩ y
      obtain ⟨T, p, hp, rfl, nT, rfl⟩ := items_atN y
      have s34 : Same H3 (upd H3 T (.tup [.int p.1, .int p.2])) := same_new nT
      have hD4 := s34 _ _ (k3 _ _ dD.symm DA hD2)
      walk_at "my rn"
      refine ⟨fun σ' H' => H' = upd H3 T (.tup [.int p.1, .int p.2]) ∧ σ' = [some (.ref t), some (.ref d), some (.ref l), some (.int lim), some (.int S), some (.int W), some (.int L), some (.ref D), none, some (.ref A), some (.int p.1), some (.int (if p.1 % S ∈ touch ∧ p.2 < lim then p.2 + 1 else p.2))], ?_, ?_⟩
      · walk_at "my rn"
        refine dinI (rd_of hD4) ?_
        walk_at "my rn"
        rw [hk]
        refine ifD (fun c => ?_) (fun c => ?_)
        · walk_at "my rn"
          refine ifD (fun c2 => ?_) (fun c2 => ?_)
          · walk_at "my rn"
            rw [if_pos ⟨c, c2⟩]
          · walk_at "my rn"
            rw [if_neg fun z => c2 z.2]
        · walk_at "my rn"
          rw [if_neg fun z => c z.1]
      · rintro σ' H' ⟨e', rfl⟩
        subst e'
        have lA : (older S W lim touch (m.take i)).length ≤ 1000 := Nat.le_trans older_len (by rw [List.length_take]; omega)
        have hA4 := s34 _ _ hA3
        have fr := older_fresh (S := S) (W := W) (lim := lim) (tch := touch) nd hp
        have tk := older_step (S := S) (W := W) (lim := lim) (tch := touch) hp
        walk_at "my rn"
        refine ifD (fun c => ?_) (fun c => ?_)
        · walk_at "my rn"
          refine dputN hA4 (by omega) ?_
          have e : older S W lim touch (m.take (i + 1)) = ptN (older S W lim touch (m.take i)) p.1 (if p.1 % S ∈ touch ∧ p.2 < lim then p.2 + 1 else p.2) := by
            rw [ptN_new fr, tk, agedP_pos c]; rfl
          refine ⟨?_, ?_, ?_, _, _, rfl⟩
          · rw [upd_ne dA]; exact s34 _ _ hf
          · intro b o nd' nA' h
            rw [upd_ne nA']
            exact s34 _ _ (k3 b o nd' nA' h)
          · rw [upd_same, e]
        · walk_at "my rn"
          have e : older S W lim touch (m.take (i + 1)) = older S W lim touch (m.take i) := by
            rw [tk, agedP_neg c]; exact List.append_nil _
          refine ⟨s34 _ _ hf, fun b o nd' nA' h => s34 _ _ (k3 b o nd' nA' h), by rw [e]; exact hA4, _, _, rfl⟩
    · rintro σ H3 ⟨hf, k3, hA3, y10, y11, rfl⟩
      refine ⟨hf, ?_⟩
      walk_at "my rn"
      rw [List.length_map, List.length_map, List.take_of_length_le (Nat.le_refl _)] at hA3
      refine q A _ (s1.free nA) (fun b o h => ?_) (by rw [upd_ne dA.symm]; exact hA3)
      have h2 := s02 _ _ h
      by_cases z : b = d
      · subst z; rw [upd_same]; exact hd2.symm.trans h2
      · rw [upd_ne z]
        exact k3 b o z (fun z2 => by rw [z2, s1.free nA] at h; cases h) h2
def sp_use_line (K : PySem.W.Frag) : Sp := fun vs H Q _ => ∃ (t d : Addr) (S W L n : Int) (m : List (Int × Int)), vs = [.ref t, .ref d, .int n] ∧ ShapeAt K H t S W L ∧ 0 < S ∧ H d = some (DN m) ∧ (m.map (·.1)).Nodup ∧ m.length ≤ 1000 ∧
  ∀ (p : Addr) H', H p = none → Same H H' → H' p = some (DN (useLine S W m n)) → Q (.ref p) H'
theorem ok_use_line (T : Top K mg) : FnOk P w K mg base CX0 2 T.a_use_line T.d_use_line ["shape", "known", "number"]  (sp_use_line K) := by
  refine T.F_use_line.ok sc_use_line (fun vs H Q E h => ?_) (fun cdv A outer s H vs Q E hr h => ?_)
  · obtain ⟨_, _, _, _, _, _, _, rfl, _⟩ := h
    rfl
  · obtain ⟨t, d, S, W, L, n, m, rfl, hsh, hS, hd, nd, lm, q⟩ := h
    refine ⟨_, (pss_cons (ps_asg (pv 0) (pg_tup rfl (pgs_cons (pg_name (i := 3) sc_use_line.nd rfl (by first | exact Or.inl rfl | exact Or.inr rfl)) (pgs_cons (pg_name (i := 4) sc_use_line.nd rfl (by first | exact Or.inl rfl | exact Or.inr rfl)) (pgs_cons (pg_name (i := 3) sc_use_line.nd rfl (by first | exact Or.inl rfl | exact Or.inr rfl)) pgs_nil)))))
  (pss_cons (ps_set (i := 5) sc_use_line.nd rfl (by first | exact Or.inl rfl | exact Or.inr rfl) (pe_dget2 (hu_of hr) (pv 1) (pv 2) (pv 4) ⟨by rfl, by rfl, by rfl, by rfl⟩))
  (pss_cons (ps_set (i := 6) sc_use_line.nd rfl (by first | exact Or.inl rfl | exact Or.inr rfl) (pe_call (ok__older T) (hr.mono (by decide)) (by rfl) T.g__older T.F__older.kp T.b__older .nil pass0 (pa_cons (pv 0) (pa_cons (pv 1) (pa_cons (pe_lst (pa_cons (pv 2) pa_nil)) (pa_cons (pv 5) pa_nil))))))
  (pss_cons (ps_dput (hu_of hr) (pv 6) (pv 2) pe_int rfl)
  (pss_one (ps_ret (pv 6))))))), ?_⟩
    rw [show ∀ a0 a1 a2 : V, L2.start ["shape", "known", "number", "_", "ways", "age", "ages"] [a0, a1, a2] = [some a0, some a1, some a2, none, none, none, none] from fun _ _ _ => rfl]
    have hsh' : SqT K H t [.int S, .int W, .int L] := hsh
    walk_at "my rn"
    refine dget2N (rd_of hd) ?_
    walk_at "my rn"
    intro l H1 nl s1 hl
    walk_at "my rn"
    refine ⟨t, d, l, S, W, L, _, m, [n], rfl, s1.seqT hsh, hS, s1 _ _ hd, nd, lm, hl, by simp, fun p H2 np s2 hp => ?_⟩
    walk_at "my rn"
    have lo : (older S W ((lkN m n).getD W) [n % S] m).length ≤ 1000 := Nat.le_trans older_len lm
    refine dputN hp (by simp only [List.map_cons, List.map_nil]; omega) ?_
    walk_at "my rn"
    exact q p _ (s1.free np) ((s1.trans s2).off (s1.free np)) (by rw [upd_same]; rfl)
def sp_use_some (K : PySem.W.Frag) : Sp := fun vs H Q _ => ∃ (t d l : Addr) (S W L : Int) (m : List (Int × Int)) (ns : List Int), vs = [.ref t, .ref d, .ref l] ∧ ShapeAt K H t S W L ∧ 0 < S ∧ H d = some (DN m) ∧ (m.map (·.1)).Nodup ∧ m.length ≤ 1000 ∧
  H l = some (.lst (ns.map V.int)) ∧ ns ≠ [] ∧ ns.length < 64 ∧ ∀ (p : Addr) H', H p = none → Same H H' → H' p = some (DN (useSome S W m ns)) → Q (.ref p) H'
theorem ok_use_some (T : Top K mg) : FnOk P w K mg base CX0 3 T.a_use_some T.d_use_some ["shape", "known", "numbers"]  (sp_use_some K) := by
  refine T.F_use_some.ok sc_use_some (fun vs H Q E h => ?_) (fun cdv A outer s H vs Q E hr h => ?_)
  · obtain ⟨_, _, _, _, _, _, _, _, rfl, _⟩ := h
    rfl
  · obtain ⟨t, d, l, S, W, L, m, ns, rfl, hsh, hS, hd, nd, lm, hl, ne, ln, q⟩ := h
    refine ⟨_, (pss_cons (ps_if (pt_cmpR op_eq (pe_lenSetD (by rfl) (by rfl) T.m_len (by rfl) T.m_set (pv 2)) pe_int (nomark _))
  (pss_one (ps_ret (pe_call (ok_use_line T) (hr.mono (by decide)) (by rfl) T.g_use_line T.F_use_line.kp T.b_use_line .nil pass0 (pa_cons (pv 0) (pa_cons (pv 1) (pa_cons (pe_ix ix_list (pv 2) pe_int (fun _ _ => rfl)) pa_nil))))))
  pss_nil)
  (pss_one (ps_ret (pe_call (ok__older T) (hr.mono (by decide)) (by rfl) T.g__older T.F__older.kp T.b__older .nil pass0 (pa_cons (pv 0) (pa_cons (pv 1) (pa_cons (pv 2) (pa_cons (pe_ix ix_tup (pv 0) pe_int (fun _ _ => rfl)) pa_nil)))))))), ?_⟩
    rw [show ∀ a0 a1 a2 : V, L2.start ["shape", "known", "numbers"] [a0, a1, a2] = [some a0, some a1, some a2] from fun _ _ _ => rfl]
    have hsh' : SqT K H t [.int S, .int W, .int L] := hsh
    walk_at "my rn"
    refine ⟨_, rfl, l, ns, rfl, SqL.of hl, ln, ?_⟩
    walk_at "my rn"
    refine ifD (fun c => ?_) (fun c => ?_)
    · have c2 : distinct ns = 1 := by have := V.int.inj c; omega
      obtain ⟨a, r, rfl⟩ : ∃ a r, ns = a :: r := by
        cases ns with
        | nil => exact absurd rfl ne
        | cons a r => exact ⟨a, r, rfl⟩
      walk_at "my rn"
      refine Rd.ixL hl (Rd.at_int (j := 0) rfl rfl) ?_
      walk_at "my rn"
      refine ⟨t, d, S, W, L, _, m, rfl, hsh, hS, hd, nd, lm, fun p H' np s1 hp => q p H' np s1 ?_⟩
      rw [useSome, if_pos c2]
      exact hp
    · have c2 : ¬ distinct ns = 1 := fun z => c (by rw [z]; rfl)
      walk_at "my rn"
      refine ⟨t, d, l, S, W, L, _, m, ns, rfl, hsh, hS, hd, nd, lm, hl, by omega, fun p H' np s1 hp => q p H' np s1 ?_⟩
      rw [useSome, if_neg c2]
      exact hp
def sp_meet : Sp := fun vs H Q _ => ∃ (d e : Addr) (m o : List (Int × Int)), vs = [.ref d, .ref e] ∧ d ≠ e ∧ H d = some (DN m) ∧ H e = some (DN o) ∧ (m.map (·.1)).Nodup ∧ m.length ≤ 1000 ∧
  ∀ (p : Addr) H', H p = none → Same H H' → H' p = some (DN (meetOf m o)) → Q (.ref p) H'
theorem ok_meet (T : Top K mg) : FnOk P w K mg base CX0 1 T.a_meet T.d_meet ["known", "other"]  sp_meet := by
  refine T.F_meet.ok sc_meet (fun vs H Q E h => ?_) (fun cdv A outer s H vs Q E hr h => ?_)
  · obtain ⟨_, _, _, _, rfl, _⟩ := h
    rfl
  · obtain ⟨d, e, m, o, rfl, de, hd, he, nd, lm, q⟩ := h
    refine ⟨_, (pss_one (ps_ret (pe_lock (pe_dc (own := [("line", 2), ("age", 3)]) (g := (gTup K 2 (gCons (gName 2) (gCons (gName 3) gNil)))) rfl sc_meet.nd (pi_items (pv 0)) (blkOk_by (N := ["known", "other", "line", "age"]) (sc := defScope s_meet) (by decide +kernel)) (fun _ _ _ _ _ => (pg_tup rfl (pgs_cons (pg_name (i := 2) sc_meet.nd rfl (Or.inl rfl)) (pgs_cons (pg_name (i := 3) sc_meet.nd rfl (Or.inl rfl)) pgs_nil)))) (fun _ _ _ _ _ => pts_one (pt_cmp (pc_din (hu_of hr) (pv 2) (pv 1)))) (fun _ _ _ _ _ => (pv 2)) (fun _ _ _ _ _ => (pe_callB (call_max2 rfl) (by rfl) T.m_max (by decide +kernel) (pa_cons (pv 3) (pa_cons (pe_dget (hu_of hr) (pv 1) (pv 2) (fun _ _ => rfl)) pa_nil)))))))), ?_⟩
    rw [show ∀ a0 a1 : V, L2.start ["known", "other", "line", "age"] [a0, a1] = [some a0, some a1, none, none] from fun _ _ => rfl]
    walk_at "my rn"
    refine lockE hd fun od => ?_
    walk_at "my rn"
    refine fun D nD => dc_it walk_items (fun i H' => H' d = some (.frz od (DN m)) ∧ (∀ b x, b ≠ d → b ≠ D → H b = some x → H' b = some x) ∧ H' D = some (DN (meetOf (m.take i) o))) ⟨?_, fun b x n1 n2 h => ?_, ?_⟩ (fun i H' _ h => h.1) ?_ ?_
    · rw [upd_ne (fun z => by rw [← z, upd_same] at nD; cases nD)]; exact upd_same
    · rw [upd_ne n2, upd_ne n1]; exact h
    · exact upd_same
    · rintro i x H1 H2 Kt Kn hi ⟨hf, k1, hD⟩ y kt kn
      obtain ⟨T, p, hp, rfl, nT, rfl⟩ := items_atN y
      have s12 : Same H1 (upd H1 T (.tup [.int p.1, .int p.2])) := same_new nT
      have De : e ≠ D := fun z => by
        rw [← z, upd_ne de.symm, he] at nD; cases nD
      have Dd : d ≠ D := fun z => by rw [← z, upd_same] at nD; cases nD
      have he2 := s12 _ _ (k1 _ _ de.symm De he)
      have hD2 := s12 _ _ hD
      have tk := fm_take (f := fun p => (lkN o p.1).map fun b => (p.1, if b > p.2 then b else p.2)) hp
      have fr := fm_fresh (f := fun p => (lkN o p.1).map fun b => (p.1, if b > p.2 then b else p.2)) (fun p q h => by
        cases e : lkN o p.1 with
        | none => rw [e] at h; cases h
        | some b => rw [e] at h; cases h; rfl) nd hp
      have ll : (meetOf (m.take i) o).length ≤ 1000 := Nat.le_trans (List.length_filterMap_le _ _) (by rw [List.length_take]; omega)
      simp only [List.map_cons, List.map_nil, L2.wipe, List.set_cons_succ, List.set_cons_zero]
      walk_at "my rn"
      refine ⟨rfl, ?_⟩
      walk_at "my rn"
      refine dinN (rd_of he2) ?_
      walk_at "my rn"
      cases eo : lkN o p.1 with
      | none =>
        refine ifF (kn _ ⟨s12 _ _ hf, fun b x n1 n2 h => s12 _ _ (k1 b x n1 n2 h), ?_⟩)
        have e2 : meetOf (m.take (i + 1)) o = meetOf (m.take i) o := by
          show (m.take (i + 1)).filterMap _ = _
          rw [tk, eo]; exact List.append_nil _
        rw [e2]; exact hD2
      | some b =>
        refine ifT ?_
        walk_at "my rn"
        refine dgetN (rd_of he2) eo ?_
        walk_at "my rn"
        refine kt _ _ _ _ hD2 (by rw [List.length_map]; omega) ⟨?_, fun b x n1 n2 h => ?_, ?_⟩
        · rw [upd_ne Dd]; exact s12 _ _ hf
        · rw [upd_ne n2]; exact s12 _ _ (k1 b x n1 n2 h)
        · rw [upd_same, pt_iv]
          have e2 : meetOf (m.take (i + 1)) o = ptN (meetOf (m.take i) o) p.1 (if b > p.2 then b else p.2) := by
            have fr2 : p.1 ∉ (meetOf (m.take i) o).map (·.1) := fr
            rw [ptN_new fr2]
            show (m.take (i + 1)).filterMap _ = _
            rw [tk, eo]; rfl
          rw [e2]
    · rintro H1 ⟨hf, k1, hD⟩
      rw [List.length_map, List.length_map, List.take_of_length_le (Nat.le_refl _)] at hD
      have Dd : d ≠ D := fun z => by rw [← z, upd_same] at nD; cases nD
      have nD0 : H D = none := by rw [upd_ne Dd.symm] at nD; exact nD
      refine ⟨hf, ?_⟩
      walk_at "my rn"
      refine q D _ nD0 (fun b x h => ?_) (by rw [upd_ne Dd.symm]; exact hD)
      by_cases z : b = d
      · subst z; rw [upd_same]; exact hd.symm.trans h
      · rw [upd_ne z]
        exact k1 b x z (fun z2 => by rw [z2, nD0] at h; cases h) h
end

/-! ### the law's mathematics -/
/-- what is known is true of the rows: each line stands there, not behind its age -/
def Tr (S : Int) (m : List (Int × Int)) (rows : List (List Int)) : Prop := ∀ p ∈ m, ∃ r, rows[(p.1 % S).toNat]? = some r ∧ ∃ j : Nat, r[j]? = some p.1 ∧ (j : Int) ≤ p.2
def usedRow (W n : Int) (r : List Int) : List Int := ([n] ++ r.filter fun x => decide (x ≠ n)).take W.toNat
theorem filt_at (n l : Int) (hl : l ≠ n) : ∀ (r : List Int) (j : Nat), r[j]? = some l → ∃ i : Nat, (r.filter fun x => decide (x ≠ n))[i]? = some l ∧ i ≤ j ∧ (n ∈ r.take j → i + 1 ≤ j)
  | [], j, h => by simp at h
  | a :: r, 0, h => by
    simp at h; subst h
    exact ⟨0, by rw [List.filter_cons_of_pos (by simpa using hl)]; rfl, Nat.le_refl _, by simp⟩
  | a :: r, j + 1, h => by
    obtain ⟨i, h1, h2, h3⟩ := filt_at n l hl r j (by simpa using h)
    by_cases e : a = n
    · exact ⟨i, by rw [List.filter_cons_of_neg (by simp [e])]; exact h1, by omega, fun _ => by omega⟩
    · refine ⟨i + 1, by rw [List.filter_cons_of_pos (by simpa using e)]; simpa using h1, by omega, fun m => ?_⟩
      rw [List.take_succ_cons] at m
      have := h3 ((List.mem_cons.mp m).resolve_left fun z => e z.symm)
      omega
theorem used_at {W n l a : Int} {r : List Int} {j : Nat} (hl : l ≠ n) (hj : r[j]? = some l) (ha : (j : Int) + 1 ≤ a ∨ (n ∈ r.take j ∧ (j : Int) ≤ a)) (hw : a < W) : ∃ i : Nat, (usedRow W n r)[i]? = some l ∧ (i : Int) ≤ a := by
  obtain ⟨i, h1, h2, h3⟩ := filt_at n l hl r j hj
  have hi : ((i + 1 : Nat) : Int) ≤ a := by
    rcases ha with ha | ⟨m, ha⟩
    · omega
    · have := h3 m; omega
  refine ⟨i + 1, ?_, hi⟩
  unfold usedRow
  rw [List.getElem?_take_of_lt (by omega)]
  simpa using h1
theorem used_head {W n : Int} {r : List Int} (hw : 0 < W) : (usedRow W n r)[0]? = some n := by
  unfold usedRow
  rw [List.getElem?_take_of_lt (by omega)]
  rfl
theorem mod_ne {S a b : Int} (hS : 0 < S) (h : a % S ≠ b % S) : (a % S).toNat ≠ (b % S).toNat := by
  have := Int.emod_nonneg a (show S ≠ 0 by omega)
  have := Int.emod_nonneg b (show S ≠ 0 by omega)
  omega
theorem older_mem {S W lim : Int} {tch : List Int} {m : List (Int × Int)} {q : Int × Int} (h : q ∈ older S W lim tch m) : ∃ a, (q.1, a) ∈ m ∧ q.2 < W ∧ q.2 = if q.1 % S ∈ tch ∧ a < lim then a + 1 else a := by
  obtain ⟨p, hp, e⟩ := List.mem_filterMap.mp h
  by_cases c : (if p.1 % S ∈ tch ∧ p.2 < lim then p.2 + 1 else p.2) < W
  · rw [agedP_pos c] at e
    cases e
    exact ⟨p.2, hp, c, rfl⟩
  · rw [agedP_neg c] at e; cases e
theorem line_true {S W n : Int} {m : List (Int × Int)} {rows : List (List Int)} {r : List Int} (hS : 0 < S) (hW : 0 < W) (t : Tr S m rows) (hr : rows[(n % S).toNat]? = some r) :
    Tr S (useLine S W m n) (rows.set (n % S).toNat (usedRow W n r)) := by
  have hl := (List.getElem?_eq_some_iff.mp hr).1
  intro q hq
  rcases ptN_mem hq with rfl | ⟨hq, ne⟩
  · exact ⟨_, List.getElem?_set_self hl, 0, used_head hW, Int.le_refl _⟩
  · obtain ⟨a, hm, hw, e⟩ := older_mem hq
    obtain ⟨r1, h1, j, hj, ja⟩ := t _ hm
    simp only at h1 hj ja
    by_cases c : q.1 % S = n % S
    · rw [c] at h1
      cases h1.symm.trans hr
      rw [c]
      refine ⟨_, List.getElem?_set_self hl, used_at ne hj ?_ hw⟩
      by_cases c2 : a < (lkN m n).getD W
      · rw [if_pos ⟨by simp [c], c2⟩] at e
        exact .inl (by omega)
      · rw [if_neg fun z => c2 z.2] at e
        cases el : lkN m n with
        | none => rw [el] at c2; simp only [Option.getD_none] at c2; omega
        | some b =>
          rw [el] at c2
          simp only [Option.getD_some] at c2
          obtain ⟨r2, g1, i, gi, ib⟩ := t _ (lkN_some el)
          simp only at g1 gi ib
          cases g1.symm.trans hr
          by_cases z : i < j
          · refine .inr ⟨?_, by omega⟩
            have : (r.take j)[i]? = some n := by rw [List.getElem?_take_of_lt z]; exact gi
            exact List.mem_of_getElem? this
          · have : i ≠ j := fun z2 => by subst z2; rw [gi] at hj; exact ne (Option.some.inj hj).symm
            exact .inl (by omega)
    · refine ⟨r1, ?_, j, hj, ?_⟩
      · rw [List.getElem?_set_ne (mod_ne hS fun z => c z.symm)]; exact h1
      · rw [e]; split <;> omega
theorem some_true {S W n : Int} {m : List (Int × Int)} {rows : List (List Int)} {r : List Int} {tch : List Int} (hS : 0 < S) (hW : 0 < W) (t : Tr S m rows) (hr : rows[(n % S).toNat]? = some r) (hn : n % S ∈ tch) :
    Tr S (older S W W tch m) (rows.set (n % S).toNat (usedRow W n r)) := by
  have hl := (List.getElem?_eq_some_iff.mp hr).1
  intro q hq
  obtain ⟨a, hm, hw, e⟩ := older_mem hq
  obtain ⟨r1, h1, j, hj, ja⟩ := t _ hm
  simp only at h1 hj ja
  by_cases ne : q.1 = n
  · rw [ne]
    exact ⟨_, List.getElem?_set_self hl, 0, used_head hW, by rw [e]; split <;> omega⟩
  · by_cases c : q.1 % S = n % S
    · rw [c] at h1
      cases h1.symm.trans hr
      rw [c]
      refine ⟨_, List.getElem?_set_self hl, used_at ne hj (.inl ?_) hw⟩
      by_cases c2 : a < W
      · rw [if_pos ⟨by rw [c]; exact hn, c2⟩] at e; omega
      · rw [if_neg fun z => c2 z.2] at e; omega
    · refine ⟨r1, ?_, j, hj, ?_⟩
      · rw [List.getElem?_set_ne (mod_ne hS fun z => c z.symm)]; exact h1
      · rw [e]; split <;> omega
theorem older_without {S W lim n : Int} {tch : List Int} {m : List (Int × Int)} : m.filterMap (fun p => (agedP S W lim tch p).filter fun q => decide (q.1 ≠ n)) = (older S W lim tch m).filter fun q => decide (q.1 ≠ n) := by
  unfold older
  rw [List.filter_filterMap]
def dueLine (S W : Int) (m : List (Int × Int)) (n : Int) : List (Int × Int) := ((older S W ((lkN m n).getD W) [n % S] m).filter fun q => decide (q.1 ≠ n)) ++ [(n, 0)]
theorem due_keys {S W n : Int} {m : List (Int × Int)} (nd : (m.map (·.1)).Nodup) : ((dueLine S W m n).map (·.1)).Nodup := by
  unfold dueLine
  rw [List.map_append, List.nodup_append]
  refine ⟨(older_keys nd).sublist (List.Sublist.map _ List.filter_sublist), by simp, fun a ha b hb e => ?_⟩
  simp at hb
  obtain ⟨p, hp, e2⟩ := List.mem_map.mp ha
  have := of_decide_eq_true (List.mem_filter.mp hp).2
  exact this (by rw [e2, e, hb])
theorem use_due {S W n : Int} {m : List (Int × Int)} (nd : (m.map (·.1)).Nodup) : (useLine S W m n).length = (dueLine S W m n).length ∧ ∀ p ∈ useLine S W m n, lkN (dueLine S W m n) p.1 = some p.2 := by
  refine ⟨by unfold useLine dueLine; rw [ptN_rest (older_keys nd), List.length_append]; rfl, fun p hp => ?_⟩
  refine lkN_mem (due_keys nd) ?_
  unfold dueLine
  rcases ptN_mem hp with rfl | ⟨h1, h2⟩
  · exact List.mem_append.mpr (.inr (List.mem_singleton.mpr rfl))
  · exact List.mem_append.mpr (.inl (List.mem_filter.mpr ⟨h1, decide_eq_true h2⟩))

/-! ### the law's own -/
section
variable {P : Program} {w : World} {K : PySem.W.Frag} {mg : Str → Option Value} {base : Heap}
/-- a list of lists of ints -/
def GridAt (H : Hp) (g : Addr) (rows : List (List Int)) : Prop := ∃ ls : List Addr, H g = some (.lst (ls.map V.ref)) ∧ ls.length = rows.length ∧ ∀ (k : Nat) a r, ls[k]? = some a → rows[k]? = some r → a ≠ g ∧ H a = some (.lst (r.map V.int))
theorem GridAt.same {H H' : Hp} {g : Addr} {rows : List (List Int)} (h : GridAt H g rows) (s : Same H H') : GridAt H' g rows := by
  obtain ⟨ls, a, b, c⟩ := h
  exact ⟨ls, s _ _ a, b, fun k x r h1 h2 => ⟨(c k x r h1 h2).1, s _ _ (c k x r h1 h2).2⟩⟩
theorem GridAt.get {H : Hp} {g : Addr} {rows : List (List Int)} (h : GridAt H g rows) {k : Nat} {r : List Int} (e : rows[k]? = some r) : ∃ (ls : List Addr) (a : Addr), H g = some (.lst (ls.map V.ref)) ∧ (ls.map V.ref)[k]? = some (.ref a) ∧ H a = some (.lst (r.map V.int)) := by
  obtain ⟨ls, a, b, c⟩ := h
  have hk : k < ls.length := by rw [b]; exact (List.getElem?_eq_some_iff.mp e).1
  exact ⟨ls, ls[k], a, by simp [hk], (c k _ r (List.getElem?_eq_getElem hk) e).2⟩
def sp__law_cell (K : PySem.W.Frag) : Sp := fun vs H Q _ => ∃ (l : Addr) (s : List Int) (k : Nat), vs = [.ref l, .int (k : Int)] ∧ SqL K H l (s.map V.int) ∧ ∀ v : Int, Q (.int v) H
theorem ok__law_cell (T : Top K mg) : FnOk P w K mg base CX0 1 T.a__law_cell T.d__law_cell ["script", "k"]  (sp__law_cell K) := by
  refine T.F__law_cell.ok sc__law_cell (fun vs H Q E h => ?_) (fun cdv A outer s H vs Q E hr h => ?_)
  · obtain ⟨_, _, _, rfl, _⟩ := h
    rfl
  · obtain ⟨l, ns, k, rfl, hl, q⟩ := h
    refine ⟨_, (pss_cons (ps_if (pt_cmpR op_lt (pv 1) (pe_callB call_len_seq (by rfl) T.m_len PySem.boot_len (pa_cons (pv 0) pa_nil)) (nomark _))
  (pss_one (ps_ret (pe_callTy call_int1 (by rfl) T.m_int (by decide +kernel) (pa_cons (pe_ix ix_list (pv 0) (pv 1) (fun _ _ => rfl)) pa_nil))))
  pss_nil)
  (pss_one (ps_ret pe_int))), ?_⟩
    rw [show ∀ a0 a1 : V, L2.start ["script", "k"] [a0, a1] = [some a0, some a1] from fun _ _ => rfl]
    walk_at "my rn"
    refine ifD (fun c => ?_) (fun c => ?_)
    · rw [List.length_map] at c
      have hk : k < ns.length := by omega
      walk_at "my rn"
      refine Rd.ixLq hl (Rd.at_int (j := k) rfl (List.getElem?_eq_getElem hk)) ?_
      walk_at "my rn"
      exact q _
    · walk_at "my rn"
      exact q _
def sp__law_mixed : Sp := fun vs H Q _ => ∃ (s k : Int), vs = [.int s, .int k] ∧ ∀ v : Int, 0 ≤ v → Q (.int v) H
theorem ok__law_mixed (T : Top K mg) : FnOk P w K mg base CX0 1 T.a__law_mixed T.d__law_mixed ["seed", "k"]  sp__law_mixed := by
  refine T.F__law_mixed.ok sc__law_mixed (fun vs H Q E h => ?_) (fun cdv A outer s H vs Q E hr h => ?_)
  · obtain ⟨_, _, rfl, _⟩ := h
    rfl
  · obtain ⟨s0, k, rfl, q⟩ := h
    refine ⟨_, (pss_one (ps_ret (pe_op op_fdiv (pe_op op_mod (pe_callTy call_int1 (by rfl) T.m_int (by decide +kernel) (pa_cons (pe_op op_add (pe_op op_add (pe_op op_mul (pe_callTy call_int1 (by rfl) T.m_int (by decide +kernel) (pa_cons (pv 0) pa_nil)) pe_int) (pe_op op_mul (pv 1) pe_int)) pe_int) pa_nil)) pe_int) pe_int))), ?_⟩
    rw [show ∀ a0 a1 : V, L2.start ["seed", "k"] [a0, a1] = [some a0, some a1] from fun _ _ => rfl]
    walk_at "my rn"
    refine q _ ?_
    omega
def sp__law_rich : Sp := fun vs H Q _ => ∃ (s k : Int), vs = [.int s, .int k] ∧ ∀ v : Int, 0 ≤ v → Q (.int v) H
theorem ok__law_rich (T : Top K mg) : FnOk P w K mg base CX0 1 T.a__law_rich T.d__law_rich ["cell", "k"]  sp__law_rich := by
  refine T.F__law_rich.ok sc__law_rich (fun vs H Q E h => ?_) (fun cdv A outer s H vs Q E hr h => ?_)
  · obtain ⟨_, _, rfl, _⟩ := h
    rfl
  · obtain ⟨s0, k, rfl, q⟩ := h
    refine ⟨_, (pss_cons (ps_if (pt_cmpR op_ge (pe_callTy call_int1 (by rfl) T.m_int (by decide +kernel) (pa_cons (pv 0) pa_nil)) (pe_op op_pow pe_int pe_int) (nomark _))
  (pss_one (ps_ret (pe_callTy call_int1 (by rfl) T.m_int (by decide +kernel) (pa_cons (pv 0) pa_nil))))
  pss_nil)
  (pss_cons (ps_set (i := 2) sc__law_rich.nd rfl (by first | exact Or.inl rfl | exact Or.inr rfl) (pe_op op_mod (pe_callTy call_int1 (by rfl) T.m_int (by decide +kernel) (pa_cons (pe_op op_add (pe_op op_add (pe_op op_mul (pe_callTy call_int1 (by rfl) T.m_int (by decide +kernel) (pa_cons (pv 0) pa_nil)) pe_int) (pe_op op_mul (pv 1) pe_int)) pe_int) pa_nil)) pe_int))
  (pss_one (ps_ret (pe_op op_add (pe_op op_mul (pv 2) pe_int) (pe_op op_mod (pe_callTy call_int1 (by rfl) T.m_int (by decide +kernel) (pa_cons (pe_op op_add (pe_op op_add (pe_op op_mul (pv 2) pe_int) (pe_op op_mul (pe_callTy call_int1 (by rfl) T.m_int (by decide +kernel) (pa_cons (pv 0) pa_nil)) pe_int)) (pv 1)) pa_nil)) pe_int)))))), ?_⟩
    rw [show ∀ a0 a1 : V, L2.start ["cell", "k", "once"] [a0, a1] = [some a0, some a1, none] from fun _ _ => rfl]
    walk_at "my rn"
    refine ifD (fun c => ?_) (fun c => ?_)
    · walk_at "my rn"
      refine q _ ?_
      have e : (10 : Int) ^ (18 : Int).toNat = 1000000000000000000 := by decide +kernel
      rw [e] at c
      omega
    · walk_at "my rn"
      refine q _ ?_
      omega
def sp__law_wide (K : PySem.W.Frag) : Sp := fun vs H Q _ => ∃ (l : Addr) (s : List Int) (k : Nat), vs = [.ref l, .int (k : Int)] ∧ SqL K H l (s.map V.int) ∧ ∀ v : Int, 0 ≤ v → Q (.int v) H
theorem ok__law_wide (T : Top K mg) : FnOk P w K mg base CX0 2 T.a__law_wide T.d__law_wide ["script", "k"]  (sp__law_wide K) := by
  refine T.F__law_wide.ok sc__law_wide (fun vs H Q E h => ?_) (fun cdv A outer s H vs Q E hr h => ?_)
  · obtain ⟨_, _, _, rfl, _⟩ := h
    rfl
  · obtain ⟨l, ns, k, rfl, hl, q⟩ := h
    refine ⟨_, (pss_one (ps_ret (pe_call (ok__law_rich T) (hr.mono (by decide)) (by rfl) T.g__law_rich T.F__law_rich.kp T.b__law_rich .nil pass0 (pa_cons (pe_call (ok__law_cell T) (hr.mono (by decide)) (by rfl) T.g__law_cell T.F__law_cell.kp T.b__law_cell .nil pass0 (pa_cons (pv 0) (pa_cons (pv 1) pa_nil))) (pa_cons (pv 1) pa_nil))))), ?_⟩
    rw [show ∀ a0 a1 : V, L2.start ["script", "k"] [a0, a1] = [some a0, some a1] from fun _ _ => rfl]
    walk_at "my rn"
    refine ⟨l, ns, k, rfl, hl, fun v => ?_⟩
    walk_at "my rn"
    refine ⟨v, k, rfl, fun u hu => ?_⟩
    walk_at "my rn"
    exact q u hu
/-- the contents: the first sets' lines, in their rows -/
def Cont (S W : Int) (rows : List (List Int)) : Prop := (rows.length : Int) = min 2 S ∧ ∀ (k : Nat) r, rows[k]? = some r → (r.length : Int) ≤ W ∧ ∀ x ∈ r, x % S = (k : Int) ∧ 0 ≤ x
theorem GridAt.push {H : Hp} {g a : Addr} {ls : List Addr} {rows : List (List Int)} {r : List Int} (h : H g = some (.lst (ls.map V.ref))) (hl : ls.length = rows.length) (hk : ∀ (k : Nat) a r, ls[k]? = some a → rows[k]? = some r → a ≠ g ∧ H a = some (.lst (r.map V.int)))
    (ha : H a = some (.lst (r.map V.int))) (ne : a ≠ g) : GridAt (upd H g (.lst (ls.map V.ref ++ [.ref a]))) g (rows ++ [r]) := by
  refine ⟨ls ++ [a], by rw [upd_same, List.map_append]; rfl, by simp [hl], fun k x y h1 h2 => ?_⟩
  by_cases c : k < ls.length
  · rw [List.getElem?_append_left c] at h1
    rw [List.getElem?_append_left (by omega)] at h2
    obtain ⟨u, v⟩ := hk k x y h1 h2
    exact ⟨u, by rw [upd_ne u]; exact v⟩
  · have e : k = ls.length := by
      have := (List.getElem?_eq_some_iff.mp h1).1
      simp at this; omega
    subst e
    rw [List.getElem?_append_right (Nat.le_refl _)] at h1
    rw [hl, List.getElem?_append_right (Nat.le_refl _)] at h2
    simp at h1 h2
    subst h1; subst h2
    exact ⟨ne, by rw [upd_ne ne]; exact ha⟩
def sp__law_contents : Sp := fun vs H Q _ => ∃ (S W sd : Int), vs = [.int S, .int W, .int sd] ∧ 1 ≤ S ∧ S ≤ 64 ∧ 1 ≤ W ∧ W ≤ 4 ∧ ∀ (G : Addr) H' rows, H G = none → Same H H' → GridAt H' G rows → Cont S W rows → Q (.ref G) H'
theorem ok__law_contents (T : Top K mg) : FnOk P w K mg base CX0 2 T.a__law_contents T.d__law_contents ["sets", "ways", "seed"]  sp__law_contents := by
  refine T.F__law_contents.ok sc__law_contents (fun vs H Q E h => ?_) (fun cdv A outer s H vs Q E hr h => ?_)
  · obtain ⟨_, _, _, rfl, _⟩ := h
    rfl
  · obtain ⟨S, W, sd, rfl, hS, hS2, hW, hW2, q⟩ := h
    refine ⟨_, (pss_cons (ps_set (i := 3) sc__law_contents.nd rfl (by first | exact Or.inl rfl | exact Or.inr rfl) (pe_lst pa_nil))
  (pss_cons (ps_for PassesOwn.never rfl (pi_range1 (by rfl) T.m_range (pa_cons (pe_callB (call_min2 rfl) (by rfl) T.m_min (by decide +kernel) (pa_cons pe_int (pa_cons (pv 0) pa_nil))) pa_nil)) (pg_name (i := 4) sc__law_contents.nd rfl (by first | exact Or.inl rfl | exact Or.inr rfl))
  (pss_cons (ps_set (i := 5) sc__law_contents.nd rfl (by first | exact Or.inl rfl | exact Or.inr rfl) (pe_lst pa_nil))
  (pss_cons (ps_for PassesOwn.never rfl (pi_range1 (by rfl) T.m_range (pa_cons (pv 1) pa_nil)) (pg_name (i := 6) sc__law_contents.nd rfl (by first | exact Or.inl rfl | exact Or.inr rfl))
  (pss_cons (ps_set (i := 7) sc__law_contents.nd rfl (by first | exact Or.inl rfl | exact Or.inr rfl) (pe_op op_add (pv 4) (pe_op op_mul (pv 0) (pe_op op_mod (pe_call (ok__law_mixed T) (hr.mono (by decide)) (by rfl) T.g__law_mixed T.F__law_mixed.kp T.b__law_mixed .nil pass0 (pa_cons (pv 2) (pa_cons (pe_op op_add (pe_op op_mul pe_int (pv 4)) (pv 6)) pa_nil))) pe_int))))
  (pss_one (ps_if (pw_and (pt_cmpR op_notIn_seq (pv 7) (pv 5) (by with_unfolding_all rfl)) (pw_and1 (pt_cmpR op_gt (pe_op op_mod (pe_call (ok__law_mixed T) (hr.mono (by decide)) (by rfl) T.g__law_mixed T.F__law_mixed.kp T.b__law_mixed .nil pass0 (pa_cons (pv 2) (pa_cons (pe_op op_add (pe_op op_mul pe_int (pv 4)) (pv 6)) pa_nil))) pe_int) pe_int (nomark _)))).pt
  (pss_one (ps_expr (pe_bm PySem.F.plainAttrs_list PySem.F.slot_list_append PySem.F.type_list_append mt_append (pv 5) (pa_cons (pv 7) pa_nil))))
  pss_nil))))
  (pss_one (ps_expr (pe_bm PySem.F.plainAttrs_list PySem.F.slot_list_append PySem.F.type_list_append mt_append (pv 3) (pa_cons (pv 5) pa_nil)))))))
  (pss_one (ps_ret (pv 3))))), ?_⟩
    rw [show ∀ a0 a1 a2 : V, L2.start ["sets", "ways", "seed", "rows", "k", "row", "j", "line"] [a0, a1, a2] = [some a0, some a1, some a2, none, none, none, none, none] from fun _ _ _ => rfl]
    walk_at "my rn"
    intro G H1 nG s1 hG
    walk_at "my rn"
    obtain ⟨N, eN⟩ : ∃ N : Nat, (N : Int) = if S < 2 then S else 2 := ⟨(if S < 2 then S else 2).toNat, by split <;> omega⟩
    have hN2 : N ≤ 2 := by split at eN <;> omega
    have hN : (N : Int) = min 2 S := by rw [eN]; split <;> omega
    rw [← eN, Int.toNat_natCast]
    refine ⟨by omega, by omega, for_it walk_range (fun i σ H' => But G H H' ∧ ∃ (ls : List Addr) (rows : List (List Int)) (y4 y5 y6 y7 : Option V), σ = [some (.int S), some (.int W), some (.int sd), some (.ref G), y4, y5, y6, y7] ∧ rows.length = i ∧ H' G = some (.lst (ls.map V.ref)) ∧ ls.length = rows.length ∧
      (∀ (k : Nat) a r, ls[k]? = some a → rows[k]? = some r → a ≠ G ∧ H' a = some (.lst (r.map V.int))) ∧ ∀ (k : Nat) r, rows[k]? = some r → (r.length : Int) ≤ W ∧ ∀ x ∈ r, x % S = (k : Int) ∧ 0 ≤ x) ⟨But.same s1, [], [], _, _, _, _, rfl, rfl, hG, rfl, by simp, by simp⟩ (fun _ _ _ _ _ => trivial) ?_ ?_⟩
    · rintro k x σ H2 H2' hk ⟨b2, ls, rows, y4, y5, y6, y7, rfl, lr, hG2, ll, hg, hc⟩ yy
      obtain ⟨rfl, e2⟩ := Rd.zr yy
      rw [e2]
      walk_at "my rn"
      intro a H3 na s3 ha
      walk_at "my rn"
      have nG2 : a ≠ G := fun z => by rw [z, hG2] at na; cases na
      refine ⟨by omega, by omega, for_it walk_range (fun j σ H' => But a H2 H' ∧ ∃ (r : List Int) (y6 y7 : Option V), σ = [some (.int S), some (.int W), some (.int sd), some (.ref G), some (.int (k : Int)), some (.ref a), y6, y7] ∧ r.length ≤ j ∧ H' a = some (.lst (r.map V.int)) ∧ ∀ x ∈ r, x % S = (k : Int) ∧ 0 ≤ x) ⟨But.same s3, [], _, _, rfl, Nat.le_refl _, ha, by simp⟩ (fun _ _ _ _ _ => trivial) ?_ ?_⟩
      · rintro j x σ H4 H4' hj ⟨b4, r, y6, y7, rfl, lj, ha4, hx⟩ yy
        obtain ⟨rfl, e4⟩ := Rd.zr yy
        rw [e4]
        walk_at "my rn"
        refine ⟨_, _, rfl, fun u hu => ?_⟩
        walk_at "my rn"
        refine Rd.I (Or.inl ⟨by omega, by omega⟩) ?_
        walk_at "my rn"
        refine Rd.ninI ha4 ?_
        walk_at "my rn"
        have eq : ((k : Int) + S * (u % 6)) % S = (k : Int) := by
          rw [Int.add_mul_emod_self_left, Int.emod_eq_of_lt (by omega) (by omega)]
        have nn : 0 ≤ (k : Int) + S * (u % 6) := by
          have := Int.mul_nonneg (show 0 ≤ S by omega) (show 0 ≤ u % 6 by omega)
          omega
        refine ifN (fun c => ?_) (fun c => ?_)
        · walk_at "my rn"
          refine ⟨_, _, rfl, fun u2 hu2 => ?_⟩
          walk_at "my rn"
          refine ifD (fun c2 => ?_) (fun c2 => ?_)
          · walk_at "my rn"
            refine Rd.app ha4 (Rd.szl (by rw [List.length_map]; omega)) ?_
            walk_at "my rn"
            refine ⟨b4.trans But.at_, r ++ [(k : Int) + S * (u % 6)], _, _, rfl, by simp; omega, by rw [upd_same, List.map_append]; rfl, fun x m => ?_⟩
            rcases List.mem_append.mp m with m | m
            · exact hx x m
            · rw [List.mem_singleton.mp m]; exact ⟨eq, nn⟩
          · walk_at "my rn"
            exact ⟨b4, r, _, _, rfl, by omega, ha4, hx⟩
        · walk_at "my rn"
          exact ⟨b4, r, _, _, rfl, by omega, ha4, hx⟩
      · rintro σ H4 ⟨b4, r, y6, y7, rfl, lj, ha4, hx⟩
        have s4 := b4.to na
        have hG4 := s4 _ _ hG2
        walk_at "my rn"
        refine Rd.app hG4 (Rd.szl (by rw [List.length_map]; omega)) ?_
        walk_at "my rn"
        obtain ⟨ls', g1, g2, g3⟩ := GridAt.push hG4 ll (fun k x y h1 h2 => ⟨(hg k x y h1 h2).1, s4 _ _ (hg k x y h1 h2).2⟩) ha4 nG2
        refine ⟨(b2.trans (But.same s4)).trans But.at_, ls', rows ++ [r], _, _, _, _, rfl, by simp [lr], g1, g2, g3, fun k' y h => ?_⟩
        by_cases c : k' < rows.length
        · rw [List.getElem?_append_left c] at h; exact hc k' y h
        · have e : k' = rows.length := by
            have := (List.getElem?_eq_some_iff.mp h).1
            simp at this; omega
          subst e
          rw [List.getElem?_append_right (Nat.le_refl _)] at h
          simp at h
          subst h
          exact ⟨by omega, by rw [lr]; exact hx⟩
    · rintro σ H2 ⟨b2, ls, rows, y4, y5, y6, y7, rfl, lr, hG2, ll, hg, hc⟩
      walk_at "my rn"
      exact q G H2 rows nG (b2.to nG) ⟨ls, hG2, ll, hg⟩ ⟨by omega, hc⟩
/-- what is known, built under way -/
structure Know (S : Int) (rows : List (List Int)) (n : Nat) (m : List (Int × Int)) : Prop where
  nd : (m.map (·.1)).Nodup
  len : m.length ≤ n
  tr : Tr S m rows
  pos : ∀ p ∈ m, 0 ≤ p.1
theorem Know.put {S W : Int} {rows : List (List Int)} {n : Nat} {m : List (Int × Int)} {k j : Nat} {r : List Int} {x v : Int} (h : Know S rows n m) (c : Cont S W rows) (hk : rows[k]? = some r) (hj : r[j]? = some x) (hv : (j : Int) ≤ v) : Know S rows (n + 1) (ptN m x v) := by
  obtain ⟨_, c2⟩ := (c.2 k r hk)
  obtain ⟨e, nn⟩ := c2 x (List.mem_of_getElem? hj)
  refine ⟨ptN_keys h.nd, Nat.le_trans ptN_len (Nat.succ_le_succ h.len), fun p hp => ?_, fun p hp => ?_⟩
  · rcases ptN_mem hp with rfl | ⟨hp, _⟩
    · refine ⟨r, ?_, j, hj, hv⟩
      rw [e, Int.toNat_natCast]; exact hk
    · exact h.tr p hp
  · rcases ptN_mem hp with rfl | ⟨hp, _⟩
    · exact nn
    · exact h.pos p hp
theorem Know.mono {S : Int} {rows : List (List Int)} {n n' : Nat} {m : List (Int × Int)} (h : Know S rows n m) (l : n ≤ n') : Know S rows n' m := ⟨h.nd, Nat.le_trans h.len l, h.tr, h.pos⟩
def sp__law_known : Sp := fun vs H Q _ => ∃ (G : Addr) (S W sd : Int) (rows : List (List Int)), vs = [.ref G, .int W, .int sd] ∧ GridAt H G rows ∧ Cont S W rows ∧ 1 ≤ S ∧ W ≤ 4 ∧
  ∀ (D : Addr) H' m, H D = none → Same H H' → H' D = some (DN m) → Know S rows 100 m → Q (.ref D) H'
theorem ok__law_known (T : Top K mg) : FnOk P w K mg base CX0 2 T.a__law_known T.d__law_known ["rows", "ways", "seed"]  sp__law_known := by
  refine T.F__law_known.ok sc__law_known (fun vs H Q E h => ?_) (fun cdv A outer s H vs Q E hr h => ?_)
  · obtain ⟨_, _, _, _, _, rfl, _⟩ := h
    rfl
  · obtain ⟨G, S, W, sd, rows, rfl, hG, hc, hS, hW, q⟩ := h
    refine ⟨_, (pss_cons (ps_set (i := 3) sc__law_known.nd rfl (by first | exact Or.inl rfl | exact Or.inr rfl) pe_dnewK)
  (pss_cons (ps_for PassesOwn.never rfl (pi_range1 (by rfl) T.m_range (pa_cons (pe_callB call_len_seq (by rfl) T.m_len PySem.boot_len (pa_cons (pv 0) pa_nil)) pa_nil)) (pg_name (i := 4) sc__law_known.nd rfl (by first | exact Or.inl rfl | exact Or.inr rfl))
  (pss_one (ps_for PassesOwn.never rfl (pi_range1 (by rfl) T.m_range (pa_cons (pe_callB call_len_seq (by rfl) T.m_len PySem.boot_len (pa_cons (pe_ix ix_list (pv 0) (pv 4) (fun _ _ => rfl)) pa_nil)) pa_nil)) (pg_name (i := 5) sc__law_known.nd rfl (by first | exact Or.inl rfl | exact Or.inr rfl))
  (pss_cons (ps_set (i := 6) sc__law_known.nd rfl (by first | exact Or.inl rfl | exact Or.inr rfl) (pe_op op_add (pv 5) (pe_op op_mod (pe_call (ok__law_mixed T) (hr.mono (by decide)) (by rfl) T.g__law_mixed T.F__law_mixed.kp T.b__law_mixed .nil pass0 (pa_cons (pv 2) (pa_cons (pe_op op_add (pe_op op_mul pe_int (pv 4)) (pv 5)) pa_nil))) (pe_op op_sub (pv 1) (pv 5)))))
  (pss_one (ps_if (pt_cmpR op_gt (pe_op op_mod (pe_call (ok__law_mixed T) (hr.mono (by decide)) (by rfl) T.g__law_mixed T.F__law_mixed.kp T.b__law_mixed .nil pass0 (pa_cons (pv 2) (pa_cons (pe_op op_add (pe_op op_add pe_int (pe_op op_mul pe_int (pv 4))) (pv 5)) pa_nil))) pe_int) pe_int (nomark _))
  (pss_one (ps_dput (hu_of hr) (pv 3) (pe_ix ix_list (pe_ix ix_list (pv 0) (pv 4) (fun _ _ => rfl)) (pv 5) (fun _ _ => rfl)) (pv 6) rfl))
  pss_nil))))))
  (pss_one (ps_ret (pv 3))))), ?_⟩
    rw [show ∀ a0 a1 a2 : V, L2.start ["rows", "ways", "seed", "known", "k", "j", "age"] [a0, a1, a2] = [some a0, some a1, some a2, none, none, none, none] from fun _ _ _ => rfl]
    obtain ⟨ls, g1, g2, g3⟩ := id hG
    have hr2 : rows.length ≤ 2 := by have := hc.1; omega
    walk_at "my rn"
    intro D H1 nD s1 hD
    have g11 := s1 _ _ g1
    walk_at "my rn"
    rw [List.length_map, Int.toNat_natCast]
    refine ⟨by omega, by omega, for_it walk_range (fun i σ H' => But D H H' ∧ ∃ (m : List (Int × Int)) (y4 y5 y6 : Option V), σ = [some (.ref G), some (.int W), some (.int sd), some (.ref D), y4, y5, y6] ∧ H' D = some (DN m) ∧ Know S rows (4 * i) m) ⟨But.same s1, [], _, _, _, rfl, hD, ⟨by simp, by simp, fun p hp => by simp at hp, by simp⟩⟩ (fun _ _ _ _ _ => trivial) ?_ ?_⟩
    · rintro k x σ H2 H2' hk ⟨b2, m, y4, y5, y6, rfl, hD2, kn⟩ yy
      obtain ⟨rfl, e2⟩ := Rd.zr yy
      rw [e2]
      have hk2 : k < rows.length := by omega
      obtain ⟨r, er⟩ : ∃ r, rows[k]? = some r := ⟨_, List.getElem?_eq_getElem hk2⟩
      obtain ⟨cl, cx⟩ := hc.2 k r er
      obtain ⟨ls2, a, f1, f2, f3⟩ := (hG.same (b2.to nD)).get er
      walk_at "my rn"
      refine Rd.ixL f1 (Rd.at_val rfl f2) ?_
      walk_at "my rn"
      rw [List.length_map, Int.toNat_natCast]
      refine ⟨by omega, by omega, for_it walk_range (fun j σ H' => But D H H' ∧ ∃ (m : List (Int × Int)) (y5 y6 : Option V), σ = [some (.ref G), some (.int W), some (.int sd), some (.ref D), some (.int (k : Int)), y5, y6] ∧ H' D = some (DN m) ∧ Know S rows (4 * k + j) m) ⟨b2, m, _, _, rfl, hD2, kn⟩ (fun _ _ _ _ _ => trivial) ?_ ?_⟩
      · rintro j x σ H4 H4' hj ⟨b4, m, y5, y6, rfl, hD4, kn⟩ yy
        obtain ⟨rfl, e4⟩ := Rd.zr yy
        rw [e4]
        walk_at "my rn"
        refine ⟨_, _, rfl, fun u hu => ?_⟩
        walk_at "my rn"
        have ag : (j : Int) ≤ (j : Int) + u % (W - (j : Int)) := by
          have := Int.emod_nonneg u (show W - (j : Int) ≠ 0 by omega)
          omega
        refine ⟨_, _, rfl, fun u2 hu2 => ?_⟩
        walk_at "my rn"
        refine ifD (fun c => ?_) (fun c => ?_)
        · obtain ⟨ls3, a3, h1, h2, h3⟩ := (hG.same (b4.to nD)).get er
          walk_at "my rn"
          refine Rd.ixL h1 (Rd.at_val rfl h2) ?_
          walk_at "my rn"
          refine Rd.ixL h3 (Rd.at_int (j := j) rfl (List.getElem?_eq_getElem hj)) ?_
          walk_at "my rn"
          refine dputN hD4 (by have := kn.len; omega) ?_
          exact ⟨b4.trans But.at_, _, _, _, rfl, upd_same, kn.put hc er (List.getElem?_eq_getElem hj) ag⟩
        · walk_at "my rn"
          exact ⟨b4, m, _, _, rfl, hD4, kn.mono (by omega)⟩
      · rintro σ H4 ⟨b4, m, y5, y6, rfl, hD4, kn⟩
        walk_at "my rn"
        exact ⟨b4, m, _, _, _, rfl, hD4, kn.mono (by omega)⟩
    · rintro σ H2 ⟨b2, m, y4, y5, y6, rfl, hD2, kn⟩
      walk_at "my rn"
      exact q D H2 m nD (b2.to nD) hD2 (kn.mono (by omega))
theorem GridAt.but {H H' : Hp} {g d : Addr} {rows : List (List Int)} {m : List (Int × Int)} (h : GridAt H g rows) (b : But d H H') (e : H d = some (DN m)) : GridAt H' g rows := by
  obtain ⟨ls, h1, h2, h3⟩ := h
  refine ⟨ls, b _ _ (fun z => by rw [z, e] at h1; cases h1) h1, h2, fun k a r e1 e2 => ?_⟩
  obtain ⟨u, v⟩ := h3 k a r e1 e2
  exact ⟨u, b _ _ (fun z => by rw [z, e] at v; cases v) v⟩
def sp__law_true : Sp := fun vs H Q _ => ∃ (D G : Addr) (S : Int) (m : List (Int × Int)) (rows : List (List Int)), vs = [.ref D, .ref G, .int S] ∧ 0 < S ∧ H D = some (DN m) ∧ (m.map (·.1)).Nodup ∧ Tr S m rows ∧ GridAt H G rows ∧ ∀ H', Same H H' → Q (.bl true) H'
theorem ok__law_true (T : Top K mg) : FnOk P w K mg base CX0 1 T.a__law_true T.d__law_true ["known", "rows", "sets"]  sp__law_true := by
  refine T.F__law_true.ok sc__law_true (fun vs H Q E h => ?_) (fun cdv A outer s H vs Q E hr h => ?_)
  · obtain ⟨_, _, _, _, _, rfl, _⟩ := h
    rfl
  · obtain ⟨D, G, S, m, rows, rfl, hS, hD, nd, tr, hG, q⟩ := h
    refine ⟨_, (pss_cons (ps_if (pt_not (pt_val (pe_callB call_isi (by rfl) T.m_isinstance (by decide +kernel) (pa_cons (pv 0) (pa_cons (pe_ty (T := "dict") (by rfl) T.m_dict (by decide +kernel)) pa_nil)))))
  (pss_one (ps_ret pe_bl))
  pss_nil)
  (pss_cons (ps_lock (ps_for PassesOwn.never rfl (pi_keys (pv 0)) (pg_name (i := 3) sc__law_true.nd rfl (by first | exact Or.inl rfl | exact Or.inr rfl))
  (pss_cons (ps_set (i := 4) sc__law_true.nd rfl (by first | exact Or.inl rfl | exact Or.inr rfl) (pe_dget (hu_of hr) (pv 0) (pv 3) (fun _ _ => rfl)))
  (pss_cons (ps_if (pw_or (pt_not (pt_val (pe_callB call_isi (by rfl) T.m_isinstance (by decide +kernel) (pa_cons (pv 3) (pa_cons (pe_ty (T := "int") (by rfl) T.m_int (by decide +kernel)) pa_nil))))) (pw_or (pt_not (pt_val (pe_callB call_isi (by rfl) T.m_isinstance (by decide +kernel) (pa_cons (pv 4) (pa_cons (pe_ty (T := "int") (by rfl) T.m_int (by decide +kernel)) pa_nil))))) (pw_or1 (pt_val (pe_callB call_isi (by rfl) T.m_isinstance (by decide +kernel) (pa_cons (pv 4) (pa_cons (pe_ty (T := "bool") (by rfl) T.m_bool (by decide +kernel)) pa_nil))))))).pt
  (pss_one (ps_ret pe_bl))
  pss_nil)
  (pss_cons (ps_set (i := 5) sc__law_true.nd rfl (by first | exact Or.inl rfl | exact Or.inr rfl) (pe_ix ix_list (pv 1) (pe_op op_mod (pe_callTy call_int1 (by rfl) T.m_int (by decide +kernel) (pa_cons (pv 3) pa_nil)) (pv 2)) (fun _ _ => rfl)))
  (pss_one (ps_if (pw_or (pt_cmpR op_notIn_seq (pv 3) (pv 5) (by with_unfolding_all rfl)) (pw_or1 (pt_cmpR op_gt (pe_bm PySem.F.plainAttrs_list PySem.F.slot_list_index PySem.F.type_list_index mt_index (pv 5) (pa_cons (pv 3) pa_nil)) (pv 4) (nomark _)))).pt
  (pss_one (ps_ret pe_bl))
  pss_nil)))))))
  (pss_one (ps_ret pe_bl)))), ?_⟩
    rw [show ∀ a0 a1 a2 : V, L2.start ["known", "rows", "sets", "line", "age", "row"] [a0, a1, a2] = [some a0, some a1, some a2, none, none, none] from fun _ _ _ => rfl]
    walk_at "my rn"
    refine lockS hD fun od => ?_
    walk_at "my rn"
    refine for_it walk_keys (fun i σ H' => H' D = some (.frz od (DN m)) ∧ But D H H' ∧ ∃ (y3 y4 y5 : Option V), σ = [some (.ref D), some (.ref G), some (.int S), y3, y4, y5]) ⟨upd_same, But.at_, _, _, _, rfl⟩ (fun i σ H' _ h => h.1) ?_ ?_
    · rintro i x σ H2 H2' hi ⟨hf, b2, y3, y4, y5, rfl⟩ yy
      obtain ⟨e2, p, hp, rfl⟩ := keys_atN yy
      rw [e2]
      obtain ⟨r, hr', j, hj, ja⟩ := tr p (List.mem_of_getElem? hp)
      obtain ⟨ls, a, f1, f2, f3⟩ := (hG.but b2 hD).get hr'
      have hjm := List.mem_of_getElem? hj
      obtain ⟨j2, h1, h2⟩ := Rd.first_at _ _ hjm
      have jj : j2 ≤ j := Nat.le_of_not_lt fun z => h2 _ z hj
      have pn : p.1 % S = (((p.1 % S).toNat : Nat) : Int) := by
        have := Int.emod_nonneg p.1 (show S ≠ 0 by omega)
        omega
      walk_at "my rn"
      refine dgetN (rd_fz hf) (lkN_mem nd (List.mem_of_getElem? hp)) ?_
      walk_at "my rn"
      refine Rd.ixL f1 (Rd.at_val pn f2) ?_
      walk_at "my rn"
      refine Rd.ninI f3 ?_
      walk_at "my rn"
      rw [decide_eq_true hjm]
      walk_at "my rn"
      refine Rd.idxI f3 h1 h2 ?_
      walk_at "my rn"
      refine ifD (fun c => ?_) (fun c => ?_)
      · exfalso
        omega
      · walk_at "my rn"
        exact ⟨hf, b2, _, _, _, rfl⟩
    · rintro σ H2 ⟨hf, b2, y3, y4, y5, rfl⟩
      refine ⟨hf, ?_⟩
      walk_at "my rn"
      exact q _ (Rd.unlock hD b2)
end

section
variable {P : Program} {w : World} {K : PySem.W.Frag} {mg : Str → Option Value} {base : Heap}
theorem GridAt.len {H : Hp} {g : Addr} {rows : List (List Int)} (h : GridAt H g rows) : ∃ ls : List Addr, H g = some (.lst (ls.map V.ref)) ∧ (ls.map V.ref).length = rows.length := by
  obtain ⟨ls, a, b, _⟩ := h
  exact ⟨ls, a, by rw [List.length_map, b]⟩
/-- a list of refs, each to a row, as a grid -/
theorem grid_of {H : Hp} {g : Addr} {vs : List V} {rows : List (List Int)} (h : H g = some (.lst vs)) (l : vs.length = rows.length) (e : ∀ (i : Nat) v r, vs[i]? = some v → rows[i]? = some r → ∃ a, v = .ref a ∧ a ≠ g ∧ H a = some (.lst (r.map V.int))) : GridAt H g rows := by
  have : ∀ v ∈ vs, ∃ a, v = V.ref a := fun v hv => by
    obtain ⟨i, hi⟩ := List.mem_iff_getElem?.mp hv
    have hl := (List.getElem?_eq_some_iff.mp hi).1
    obtain ⟨a, ha, _⟩ := e i v _ hi (List.getElem?_eq_getElem (l ▸ hl))
    exact ⟨a, ha⟩
  obtain ⟨ls, rfl⟩ : ∃ ls : List Addr, vs = ls.map V.ref := by
    clear e l h
    induction vs with
    | nil => exact ⟨[], rfl⟩
    | cons v r ih =>
      obtain ⟨a, rfl⟩ := this v List.mem_cons_self
      obtain ⟨ls, e2⟩ := ih fun v hv => this v (List.mem_cons_of_mem _ hv)
      exact ⟨a :: ls, by rw [e2]; rfl⟩
  rw [List.length_map] at l
  refine ⟨ls, h, l, fun k a r h1 h2 => ?_⟩
  obtain ⟨b, e1, e2, e3⟩ := e k (.ref a) r (by rw [List.getElem?_map, h1]; rfl) h2
  cases e1
  exact ⟨e2, e3⟩
/-- a row of the grid changed for another list -/
theorem GridAt.set {H : Hp} {g a : Addr} {ls : List Addr} {rows : List (List Int)} {r : List Int} {k : Nat} (h : H g = some (.lst (ls.map V.ref))) (hl : ls.length = rows.length) (hk : ∀ (k : Nat) a r, ls[k]? = some a → rows[k]? = some r → a ≠ g ∧ H a = some (.lst (r.map V.int)))
    (ha : H a = some (.lst (r.map V.int))) (ne : a ≠ g) : GridAt (upd H g (.lst ((ls.map V.ref).set k (.ref a)))) g (rows.set k r) := by
  refine ⟨ls.set k a, by rw [upd_same, List.map_set], by simp [hl], fun i x y h1 h2 => ?_⟩
  by_cases c : k = i
  · subst c
    rw [List.getElem?_set] at h1 h2
    rw [if_pos rfl] at h1 h2
    split at h1
    · split at h2
      · cases h1; cases h2
        exact ⟨ne, by rw [upd_ne ne]; exact ha⟩
      · cases h2
    · cases h1
  · rw [List.getElem?_set_ne c] at h1 h2
    obtain ⟨u, v⟩ := hk i x y h1 h2
    exact ⟨u, by rw [upd_ne u]; exact v⟩
def sp__law_used (K : PySem.W.Frag) : Sp := fun vs H Q _ => ∃ (G : Addr) (S W n : Int) (rows : List (List Int)) (r : List Int), vs = [.ref G, .int S, .int W, .int n] ∧ 0 < S ∧ 0 ≤ W ∧ GridAt H G rows ∧ rows.length ≤ 1000 ∧ rows[(n % S).toNat]? = some r ∧ r.length ≤ 1000 ∧
  ∀ (A : Addr) H', Same H H' → GridAt H' A (rows.set (n % S).toNat (usedRow W n r)) → Q (.ref A) H'
theorem ok__law_used (T : Top K mg) : FnOk P w K mg base CX0 1 T.a__law_used T.d__law_used ["rows", "sets", "ways", "line"]  (sp__law_used K) := by
  refine T.F__law_used.ok sc__law_used (fun vs H Q E h => ?_) (fun cdv A outer s H vs Q E hr h => ?_)
  · obtain ⟨_, _, _, _, _, _, rfl, _⟩ := h
    rfl
  · obtain ⟨G, S, W, n, rows, r, rfl, hS, hW, hG, lr, er, l1, q⟩ := h
    refine ⟨_, (pss_cons (ps_setLc (i := 4) (own := [("row", 5)]) (g := gName 5) (tt := tYes) rfl sc__law_used.nd rfl rfl (sw_true rfl rfl rfl (by decide +kernel)) (pi_list (pv 0)) (blkOk_by (N := ["rows", "sets", "ways", "line", "after", "row", "kept", "one"]) (sc := defScope s__law_used) (by decide +kernel)) (fun _ _ _ _ _ => pg_name (i := 5) sc__law_used.nd rfl (Or.inl rfl)) (fun _ _ _ _ _ => pts_nil) (fun _ _ _ _ _ => (pe_callTy (show CallR _ (Value.type "list") (rListOf K) from call_list_of) (by rfl) T.m_list (by decide +kernel) (pa_cons (pv 5) pa_nil))))
  (pss_cons (ps_setLc (i := 6) (own := [("one", 7)]) (g := gName 7) rfl sc__law_used.nd rfl rfl (sw_true rfl rfl rfl (by decide +kernel)) (pi_list (pe_ix ix_list (pv 4) (pe_op op_mod (pe_callTy call_int1 (by rfl) T.m_int (by decide +kernel) (pa_cons (pv 3) pa_nil)) (pv 1)) (fun _ _ => rfl))) (blkOk_by (N := ["rows", "sets", "ways", "line", "after", "row", "kept", "one"]) (sc := defScope s__law_used) (by decide +kernel)) (fun _ _ _ _ _ => pg_name (i := 7) sc__law_used.nd rfl (Or.inl rfl)) (fun _ _ _ _ _ => pts_one (pt_cmpR op_ne (pv 7) (pv 3) (nomark _))) (fun _ _ _ _ _ => (pv 7)))
  (pss_cons (ps_asg (pe_slice sl_list (pe_op op_cat (pe_lst (pa_cons (pv 3) pa_nil)) (pv 6)) po_none (po_some (pv 2))) (pg_sub (pv 4) (pe_op op_mod (pe_callTy call_int1 (by rfl) T.m_int (by decide +kernel) (pa_cons (pv 3) pa_nil)) (pv 1)) set_list))
  (pss_one (ps_ret (pv 4)))))), ?_⟩
    rw [show ∀ a0 a1 a2 a3 : V, L2.start ["rows", "sets", "ways", "line", "after", "row", "kept", "one"] [a0, a1, a2, a3] = [some a0, some a1, some a2, some a3, none, none, none, none] from fun _ _ _ _ => rfl]
    obtain ⟨ls, g1, g2, g3⟩ := id hG
    have pn : n % S = (((n % S).toNat : Nat) : Int) := by
      have := Int.emod_nonneg n (show S ≠ 0 by omega)
      omega
    walk_at "my rn"
    intro A1 nA1
    refine Rd.lc_rel (walk_list (xs := ls.map V.ref)) (fun i v H' => ∃ a r, v = .ref a ∧ a ≠ A1 ∧ rows[i]? = some r ∧ H' a = some (.lst (r.map V.int))) nA1 (by rw [List.length_map]; omega) (fun i v _ _ ⟨a, r, e, n, e1, e2⟩ b => ⟨a, r, e, n, e1, b _ _ n e2⟩) (fun H' b => SqL.of ((b.to nA1) _ _ g1)) (fun i x H3 H4 Kt hi b hDl y kt => ?_) (fun H1 vs lv hv s1 hA1 => ?_)
    · obtain ⟨rfl, hx⟩ := y
      rw [List.length_map] at hi
      have ei : rows[i]? = some rows[i] := List.getElem?_eq_getElem (by omega)
      obtain ⟨ls2, a, f1, f2, f3⟩ := (hG.same (b.to nA1)).get ei
      have e : x = .ref a := by
        have h1 := (b.to nA1) _ _ g1
        rw [f1] at h1
        have h2 : ls2.map V.ref = ls.map V.ref := HO.lst.inj (Option.some.inj h1)
        rw [h2] at f2
        exact Option.some.inj (hx.symm.trans f2)
      subst e
      simp only [List.map_cons, List.map_nil, L2.wipe, List.set_cons_succ, List.set_cons_zero]
      walk_at "my rn"
      refine ⟨rfl, ?_⟩
      walk_at "my rn"
      intro a2 H5 na2 s5 ha2
      obtain ⟨xs, hxs⟩ := hDl
      exact kt _ _ ⟨a2, _, rfl, fun z => (by rw [z, hxs] at na2; cases na2), ei, ha2⟩ s5
    rw [List.length_map] at lv
    have gA : GridAt H1 A1 rows := grid_of hA1 (lv.trans g2) fun i v r hv1 hr1 => by
      obtain ⟨a, r', e, n, e1, e2⟩ := hv i v hv1
      cases e1.symm.trans hr1
      exact ⟨a, e, n, e2⟩
    obtain ⟨ls2, a, f1, f2, f3⟩ := gA.get er
    walk_at "my rn"
    refine Rd.ixL f1 (Rd.at_val pn f2) ?_
    walk_at "my rn"
    intro A2 nA2
    refine Rd.lc_fl (fun x => decide (x ≠ n)) (SqL.of f3) nA2 (by omega) (fun i H3 x Kt Kn hi b kt kn => ?_) (fun H2 s2 hA2 => ?_)
    · simp only [List.map_cons, List.map_nil, L2.wipe, List.set_cons_succ, List.set_cons_zero]
      walk_at "my rn"
      refine ⟨rfl, ?_⟩
      walk_at "my rn"
      refine ifN (fun c => ?_) (fun c => ?_)
      · walk_at "my rn"
        exact kt (decide_eq_true fun z => c (by rw [z]))
      · exact kn (decide_eq_false fun z => z (V.int.inj c))
    walk_at "my rn"
    intro A3 H3 nA3 s3 hA3
    have hA23 := s3 _ _ hA2
    walk_at "my rn"
    refine Rd.cat hA3 hA23 (by have := List.length_filter_le (fun x => decide (x ≠ n)) r; simp only [List.length_cons, List.length_nil, List.length_map]; omega) fun A4 H4 nA4 s4 hA4 => ?_
    walk_at "my rn"
    intro A5 H5 nA5 s5 hA5
    have eW : cutV ([V.int n] ++ (r.filter fun x => decide (x ≠ n)).map V.int) none (some W) = (usedRow W n r).map V.int := by
      rw [show W = ((W.toNat : Nat) : Int) by omega, Rd.cut_to, usedRow, List.map_take, Int.toNat_natCast, List.map_append]
      rfl
    rw [eW] at hA5
    have s15 := s2.trans (s3.trans (s4.trans s5))
    obtain ⟨ls5, g5, l5, k5⟩ := gA.same s15
    have hlt : (n % S).toNat < (ls5.map V.ref).length := by
      have := (List.getElem?_eq_some_iff.mp er).1
      rw [List.length_map]; omega
    have ne5 : A5 ≠ A1 := fun z => by
      have := (s2.trans (s3.trans s4)) _ _ f1
      rw [← z, nA5] at this; cases this
    walk_at "my rn"
    refine Rd.setL g5 (by rw [pn]; exact Evl.ixN_nat hlt) ?_
    walk_at "my rn"
    refine q A1 _ ?_ (GridAt.set g5 l5 k5 hA5 ne5)
    exact (s1.trans s15).off nA1
def sp__law_aged : Sp := fun vs H Q _ => ∃ (D U : Addr) (S W lim wo : Int) (m : List (Int × Int)) (tch : List Int), vs = [.ref D, .int S, .int W, .ref U, .int lim, .int wo] ∧ 0 < S ∧ H D = some (DN m) ∧ (m.map (·.1)).Nodup ∧ m.length ≤ 1000 ∧ H U = some (.lst (tch.map V.int)) ∧
  ∀ (A : Addr) H', H A = none → Same H H' → H' A = some (DN ((older S W lim tch m).filter fun q => decide (q.1 ≠ wo))) → Q (.ref A) H'
theorem ok__law_aged (T : Top K mg) : FnOk P w K mg base CX0 1 T.a__law_aged T.d__law_aged ["known", "sets", "ways", "touched", "limit", "without"]  sp__law_aged := by
  refine T.F__law_aged.ok sc__law_aged (fun vs H Q E h => ?_) (fun cdv A outer s H vs Q E hr h => ?_)
  · obtain ⟨_, _, _, _, _, _, _, _, rfl, _⟩ := h
    rfl
  · obtain ⟨D, U, S, W, lim, wo, m, tch, rfl, hS, hD, nd, lm, hT, q⟩ := h
    refine ⟨_, (pss_cons (ps_set (i := 6) sc__law_aged.nd rfl (by first | exact Or.inl rfl | exact Or.inr rfl) pe_dnewK)
  (pss_cons (ps_lock (ps_for PassesOwn.never rfl (pi_keys (pv 0)) (pg_name (i := 7) sc__law_aged.nd rfl (by first | exact Or.inl rfl | exact Or.inr rfl))
  (pss_cons (ps_set (i := 8) sc__law_aged.nd rfl (by first | exact Or.inl rfl | exact Or.inr rfl) (pe_dget (hu_of hr) (pv 0) (pv 7) (fun _ _ => rfl)))
  (Evl.pss_cut (ps_if (pw_and (pt_cmpR op_in_seq (pe_op op_mod (pe_callTy call_int1 (by rfl) T.m_int (by decide +kernel) (pa_cons (pv 7) pa_nil)) (pv 1)) (pv 3) (by with_unfolding_all rfl)) (pw_and1 (pt_cmpR op_lt (pv 8) (pv 4) (nomark _)))).pt
  (pss_one (ps_set (i := 8) sc__law_aged.nd rfl (by first | exact Or.inl rfl | exact Or.inr rfl) (pe_op op_add (pv 8) pe_int)))
  pss_nil)
  (pss_one (ps_if (pw_and (pt_cmpR op_lt (pv 8) (pv 2) (nomark _)) (pw_and1 (pt_cmpR op_ne (pv 7) (pv 5) (nomark _)))).pt
  (pss_one (ps_dput (hu_of hr) (pv 6) (pv 7) (pv 8) rfl))
  pss_nil))))))
  (pss_one (ps_ret (pv 6))))), ?_⟩
    rw [show ∀ a0 a1 a2 a3 a4 a5 : V, L2.start ["known", "sets", "ways", "touched", "limit", "without", "due", "line", "age"] [a0, a1, a2, a3, a4, a5] = [some a0, some a1, some a2, some a3, some a4, some a5, none, none, none] from fun _ _ _ _ _ _ => rfl]
    walk_at "my rn"
    intro A H1 nA s1 hA
    have hD1 := s1 _ _ hD
    have hT1 := s1 _ _ hT
    have DA : D ≠ A := ne_of_none hD nA
    have TD : U ≠ D := fun z => by rw [z, hD] at hT; cases hT
    have TA : U ≠ A := ne_of_none hT nA
    walk_at "my rn"
    refine lockS hD1 fun od => ?_
    walk_at "my rn"
    obtain ⟨f, ef⟩ : ∃ f : Int × Int → Option (Int × Int), f = fun p => (agedP S W lim tch p).filter fun q => decide (q.1 ≠ wo) := ⟨_, rfl⟩
    have fk : ∀ p q, f p = some q → q.1 = p.1 := fun p q h => by
      rw [ef] at h
      exact agedP_key (Option.filter_eq_some_iff.mp h).1
    refine for_it walk_keys (fun i σ H' => H' D = some (.frz od (DN m)) ∧ (∀ b o, b ≠ D → b ≠ A → H1 b = some o → H' b = some o) ∧ H' A = some (DN ((m.take i).filterMap f)) ∧ ∃ y7 y8, σ = [some (.ref D), some (.int S), some (.int W), some (.ref U), some (.int lim), some (.int wo), some (.ref A), y7, y8])
      ⟨upd_same, fun b o nb _ h => by rw [upd_ne nb]; exact h, by rw [upd_ne DA.symm]; exact hA, none, none, rfl⟩ (fun i σ H' _ h => h.1) ?_ ?_
    · rintro i x σ H2 H2' hi ⟨hf, k2, hA2, y7, y8, rfl⟩ yy
      obtain ⟨e2, p, hp, rfl⟩ := keys_atN yy
      rw [e2]
      have hT2 := k2 _ _ TD TA hT1
      have ll : ((m.take i).filterMap f).length ≤ 1000 := Nat.le_trans (List.length_filterMap_le _ _) (by rw [List.length_take]; omega)
      have tk := fm_take (f := f) hp
      have fr := fm_fresh fk nd hp
      walk_at "my rn"
      refine dgetN (rd_fz hf) (lkN_mem nd (List.mem_of_getElem? hp)) ?_
      walk_at "my rn"
      refine ⟨fun σ' H' => H' = H2 ∧ σ' = [some (.ref D), some (.int S), some (.int W), some (.ref U), some (.int lim), some (.int wo), some (.ref A), some (.int p.1), some (.int (if p.1 % S ∈ tch ∧ p.2 < lim then p.2 + 1 else p.2))], ?_, ?_⟩
      · walk_at "my rn"
        refine Rd.inI hT2 ?_
        walk_at "my rn"
        refine ifD (fun c => ?_) (fun c => ?_)
        · walk_at "my rn"
          refine ifD (fun c2 => ?_) (fun c2 => ?_)
          · walk_at "my rn"
            rw [if_pos ⟨c, c2⟩]
          · walk_at "my rn"
            rw [if_neg fun z => c2 z.2]
        · walk_at "my rn"
          rw [if_neg fun z => c z.1]
      · rintro σ' H' ⟨e', rfl⟩
        rw [e', ← e2]
        rw [← e2] at hf k2 hA2
        walk_at "my rn"
        refine ifD (fun c => ?_) (fun c => ?_)
        · walk_at "my rn"
          refine ifN (fun c2 => ?_) (fun c2 => ?_)
          · walk_at "my rn"
            refine dputN hA2 (by omega) ?_
            have e : f p = some (p.1, if p.1 % S ∈ tch ∧ p.2 < lim then p.2 + 1 else p.2) := by
              rw [ef]
              show Option.filter _ (agedP S W lim tch p) = _
              rw [agedP_pos c]
              exact Option.filter_some_pos (decide_eq_true fun z => c2 (by rw [z]))
            refine ⟨by rw [upd_ne DA]; exact hf, fun b o n1 n2 h => by rw [upd_ne n2]; exact k2 b o n1 n2 h, ?_, _, _, rfl⟩
            rw [upd_same, tk, e, ptN_new fr]
            rfl
          · walk_at "my rn"
            have e : f p = none := by
              rw [ef]
              show Option.filter _ (agedP S W lim tch p) = _
              rw [agedP_pos c]
              exact Option.filter_some_neg (by simpa using V.int.inj c2)
            refine ⟨hf, k2, ?_, _, _, rfl⟩
            rw [tk, e, Option.toList_none, List.append_nil]; exact hA2
        · walk_at "my rn"
          have e : f p = none := by
            rw [ef]
            show Option.filter _ (agedP S W lim tch p) = _
            rw [agedP_neg c]
            rfl
          refine ⟨hf, k2, ?_, _, _, rfl⟩
          rw [tk, e, Option.toList_none, List.append_nil]; exact hA2
    · rintro σ H2 ⟨hf, k2, hA2, y7, y8, rfl⟩
      refine ⟨hf, ?_⟩
      walk_at "my rn"
      rw [List.length_map, List.length_map, List.take_of_length_le (Nat.le_refl _), ef, older_without] at hA2
      refine q A _ nA (fun b o h => ?_) (by rw [upd_ne DA.symm]; exact hA2)
      by_cases z : b = D
      · subst z; rw [upd_same]; exact hD.symm.trans h
      · rw [upd_ne z]
        exact k2 b o z (fun z2 => by rw [z2, nA] at h; cases h) (s1 _ _ h)
def sp__law_due_line : Sp := fun vs H Q _ => ∃ (D : Addr) (S W n : Int) (m : List (Int × Int)), vs = [.ref D, .int S, .int W, .int n] ∧ 0 < S ∧ H D = some (DN m) ∧ (m.map (·.1)).Nodup ∧ m.length ≤ 1000 ∧
  ∀ (A : Addr) H', H A = none → Same H H' → H' A = some (DN (dueLine S W m n)) → Q (.ref A) H'
theorem ok__law_due_line (T : Top K mg) : FnOk P w K mg base CX0 2 T.a__law_due_line T.d__law_due_line ["known", "sets", "ways", "line"]  sp__law_due_line := by
  refine T.F__law_due_line.ok sc__law_due_line (fun vs H Q E h => ?_) (fun cdv A outer s H vs Q E hr h => ?_)
  · obtain ⟨_, _, _, _, _, rfl, _⟩ := h
    rfl
  · obtain ⟨D, S, W, n, m, rfl, hS, hD, nd, lm, q⟩ := h
    refine ⟨_, (Evl.pss_cut (ps_set (i := 4) sc__law_due_line.nd rfl (by first | exact Or.inl rfl | exact Or.inr rfl) (pe_ifExp (pt_cmp (pc_din (hu_of hr) (pv 3) (pv 0))) (pe_dget (hu_of hr) (pv 0) (pv 3) (fun _ _ => rfl)) (pv 2)))
  (pss_cons (ps_set (i := 5) sc__law_due_line.nd rfl (by first | exact Or.inl rfl | exact Or.inr rfl) (pe_call (ok__law_aged T) (hr.mono (by decide)) (by rfl) T.g__law_aged T.F__law_aged.kp T.b__law_aged .nil pass0 (pa_cons (pv 0) (pa_cons (pv 1) (pa_cons (pv 2) (pa_cons (pe_lst (pa_cons (pe_op op_mod (pe_callTy call_int1 (by rfl) T.m_int (by decide +kernel) (pa_cons (pv 3) pa_nil)) (pv 1)) pa_nil)) (pa_cons (pv 4) (pa_cons (pv 3) pa_nil))))))))
  (pss_cons (ps_dput (hu_of hr) (pv 5) (pv 3) pe_int rfl)
  (pss_one (ps_ret (pv 5)))))), ?_⟩
    rw [show ∀ a0 a1 a2 a3 : V, L2.start ["known", "sets", "ways", "line", "limit", "due"] [a0, a1, a2, a3] = [some a0, some a1, some a2, some a3, none, none] from fun _ _ _ _ => rfl]
    refine ⟨fun σ' H' => H' = H ∧ σ' = [some (.ref D), some (.int S), some (.int W), some (.int n), some (.int ((lkN m n).getD W)), none], ?_, ?_⟩
    · walk_at "my rn"
      refine dinN (rd_of hD) ?_
      walk_at "my rn"
      cases e : lkN m n with
      | none =>
        walk_at "my rn"
        refine ifF ?_
        walk_at "my rn"
        exact rfl
      | some b =>
        refine ifT ?_
        walk_at "my rn"
        refine dgetN (rd_of hD) e ?_
        walk_at "my rn"
        exact rfl
    rintro σ' H' ⟨rfl, rfl⟩
    walk_at "my rn"
    intro U H1 nU s1 hU
    walk_at "my rn"
    refine ⟨D, U, S, W, _, n, m, [n % S], rfl, hS, s1 _ _ hD, nd, lm, hU, fun A H2 nA s2 hA => ?_⟩
    have lA : ((older S W ((lkN m n).getD W) [n % S] m).filter fun q => decide (q.1 ≠ n)).length ≤ 1000 := Nat.le_trans (List.length_filter_le _ _) (Nat.le_trans older_len lm)
    have fr : n ∉ ((older S W ((lkN m n).getD W) [n % S] m).filter fun q => decide (q.1 ≠ n)).map (·.1) := fun z => by
      obtain ⟨p, hp, e⟩ := List.mem_map.mp z
      exact of_decide_eq_true (List.mem_filter.mp hp).2 e
    walk_at "my rn"
    refine dputN hA (by omega) ?_
    walk_at "my rn"
    refine q A _ (s1.free nA) ((s1.trans s2).off (s1.free nA)) ?_
    rw [upd_same, ptN_new fr]
    rfl
end

theorem range_getD (ns : List Int) : (List.range ns.length).map (fun i => ns.getD i 0) = ns := by
  apply List.ext_getElem
  · rw [List.length_map, List.length_range]
  · intro i h1 h2
    rw [List.getElem_map, List.getElem_range, List.getD_eq_getElem?_getD, List.getElem?_eq_getElem h2]
    rfl
theorem dedup_same {a : Int} : ∀ (r : List Int), (∀ x ∈ r, x = a) → r.foldl step_dedup [a] = [a]
  | [], _ => rfl
  | b :: r, h => by
    have e := h b List.mem_cons_self
    subst e
    rw [List.foldl_cons, show step_dedup [b] b = [b] by simp [step_dedup]]
    exact dedup_same r fun x m => h x (List.mem_cons_of_mem _ m)
theorem distinct_one {a : Int} {r : List Int} : distinct (a :: r) = 1 ↔ (a :: r).filter (fun x => decide (x ≠ a)) = [] := by
  constructor
  · intro h
    obtain ⟨y, hy⟩ := List.length_eq_one_iff.mp h
    have mem : ∀ k ∈ a :: r, k = y := fun k hk => by
      have := firstMet_any (fun i => (a :: r).getD i 0) (a :: r).length k
      rw [hy, range_getD] at this
      have h2 : (a :: r).any (· == k) = true := List.any_eq_true.mpr ⟨k, hk, beq_self_eq_true k⟩
      rw [h2] at this
      simp at this
      exact this.symm
    refine List.filter_eq_nil_iff.mpr fun x hx => ?_
    rw [mem x hx, mem a List.mem_cons_self]
    simp
  · intro h
    have al : ∀ x ∈ a :: r, x = a := fun x hx => by
      have := List.filter_eq_nil_iff.mp h x hx
      simpa using this
    unfold distinct firstMet
    rw [range_getD, List.foldl_cons, show step_dedup [] a = [a] from rfl, dedup_same r fun x m => al x (List.mem_cons_of_mem _ m)]
    rfl
theorem some_ok {S W : Int} {m : List (Int × Int)} {rows : List (List Int)} {r : List Int} {ns : List Int} {n : Int} (hS : 0 < S) (hW : 0 < W) (t : Tr S m rows) (hn : n ∈ ns) (hr : rows[(n % S).toNat]? = some r) :
    Tr S (useSome S W m ns) (rows.set (n % S).toNat (usedRow W n r)) := by
  unfold useSome
  by_cases c : distinct ns = 1
  · rw [if_pos c]
    obtain ⟨a, rs, rfl⟩ : ∃ a rs, ns = a :: rs := by
      cases ns with
      | nil => cases hn
      | cons a rs => exact ⟨a, rs, rfl⟩
    have e := List.filter_eq_nil_iff.mp (distinct_one.mp c) n hn
    have e : n = a := by simpa using e
    subst e
    exact line_true hS hW t hr
  · rw [if_neg c]
    exact some_true hS hW t hr (List.mem_map.mpr ⟨n, hn, rfl⟩)
/-- what use_some gives, against the law's -/
theorem some_due {S W : Int} {m : List (Int × Int)} {a : Int} {r : List Int} (nd : (m.map (·.1)).Nodup) (pos : ∀ p ∈ m, 0 ≤ p.1) :
    let due := if (a :: r).filter (fun x => decide (x ≠ a)) = [] then dueLine S W m a else (older S W W ((a :: r).map (· % S)) m).filter fun q => decide (q.1 ≠ -1)
    (useSome S W m (a :: r)).length = due.length ∧ ∀ p ∈ useSome S W m (a :: r), lkN due p.1 = some p.2 := by
  intro due
  unfold useSome
  by_cases c : distinct (a :: r) = 1
  · rw [if_pos c]
    have e : due = dueLine S W m a := if_pos (distinct_one.mp c)
    rw [e]
    exact use_due nd
  · rw [if_neg c]
    have e : due = older S W W ((a :: r).map (· % S)) m := by
      have : due = (older S W W ((a :: r).map (· % S)) m).filter fun q => decide (q.1 ≠ -1) := if_neg fun z => c (distinct_one.mpr z)
      rw [this]
      refine List.filter_eq_self.mpr fun q hq => ?_
      obtain ⟨b, hb, _⟩ := older_mem hq
      have := pos _ hb
      simp only at this
      exact decide_eq_true (by omega)
    rw [e]
    exact ⟨rfl, fun p hp => lkN_mem (older_keys nd) hp⟩
theorem meet_keys {m o : List (Int × Int)} (nd : (m.map (·.1)).Nodup) : ((meetOf m o).map (·.1)).Nodup := fm_keys (fun p q h => by
  cases e : lkN o p.1 with
  | none => rw [e] at h; cases h
  | some b => rw [e] at h; cases h; rfl) nd
section
variable {P : Program} {w : World} {K : PySem.W.Frag} {mg : Str → Option Value} {base : Heap}
def sp_law (K : PySem.W.Frag) : Sp := fun vs H Q _ => ∃ (a : Addr) (ns : List Int), vs = [.ref a] ∧ SqL K H a (ns.map V.int) ∧ ns.length ≤ 63 ∧ ∀ H', Q (.bl true) H'
theorem ok_law (T : Top K mg) : FnOk P w K mg base CX0 4 T.a_law T.d_law ["script"]  (sp_law K) := by
  refine T.F_law.ok sc_law (fun vs H Q E h => ?_) (fun cdv A outer s H vs Q E hr h => ?_)
  · obtain ⟨_, _, rfl, _⟩ := h
    rfl
  · obtain ⟨l, sc, rfl, hsc, hlen, q⟩ := h
    refine ⟨_, (pss_cons (ps_set (i := 1) sc_law.nd rfl (by first | exact Or.inl rfl | exact Or.inr rfl) (pe_call (ok__law_wide T) (hr.mono (by decide)) (by rfl) T.g__law_wide T.F__law_wide.kp T.b__law_wide .nil pass0 (pa_cons (pv 0) (pa_cons pe_int pa_nil))))
  (pss_cons (ps_set (i := 2) sc_law.nd rfl (by first | exact Or.inl rfl | exact Or.inr rfl) (pe_op op_add pe_int (pe_op op_mod (pe_callTy call_int1 (by rfl) T.m_int (by decide +kernel) (pa_cons (pv 1) pa_nil)) pe_int)))
  (pss_cons (ps_set (i := 3) sc_law.nd rfl (by first | exact Or.inl rfl | exact Or.inr rfl) (pe_op op_add pe_int (pe_op op_mod (pe_op op_fdiv (pe_callTy call_int1 (by rfl) T.m_int (by decide +kernel) (pa_cons (pv 1) pa_nil)) pe_int) pe_int)))
  (pss_cons (ps_set (i := 4) sc_law.nd rfl (by first | exact Or.inl rfl | exact Or.inr rfl) (pe_tup (pa_cons (pv 3) (pa_cons (pv 2) (pa_cons (pe_ix ix_list (pe_lst (pa_cons pe_int (pa_cons pe_int (pa_cons pe_int (pa_cons pe_int (pa_cons pe_int pa_nil)))))) (pe_op op_mod (pe_op op_fdiv (pe_callTy call_int1 (by rfl) T.m_int (by decide +kernel) (pa_cons (pv 1) pa_nil)) pe_int) pe_int) (fun _ _ => rfl)) pa_nil)))))
  (pss_cons (ps_set (i := 5) sc_law.nd rfl (by first | exact Or.inl rfl | exact Or.inr rfl) (pe_call (ok__law_cell T) (hr.mono (by decide)) (by rfl) T.g__law_cell T.F__law_cell.kp T.b__law_cell .nil pass0 (pa_cons (pv 0) (pa_cons pe_int pa_nil))))
  (pss_cons (ps_set (i := 6) sc_law.nd rfl (by first | exact Or.inl rfl | exact Or.inr rfl) (pe_call (ok__law_contents T) (hr.mono (by decide)) (by rfl) T.g__law_contents T.F__law_contents.kp T.b__law_contents .nil pass0 (pa_cons (pv 3) (pa_cons (pv 2) (pa_cons (pe_call (ok__law_cell T) (hr.mono (by decide)) (by rfl) T.g__law_cell T.F__law_cell.kp T.b__law_cell .nil pass0 (pa_cons (pv 0) (pa_cons pe_int pa_nil))) pa_nil)))))
  (pss_cons (ps_set (i := 7) sc_law.nd rfl (by first | exact Or.inl rfl | exact Or.inr rfl) (pe_call (ok__law_known T) (hr.mono (by decide)) (by rfl) T.g__law_known T.F__law_known.kp T.b__law_known .nil pass0 (pa_cons (pv 6) (pa_cons (pv 2) (pa_cons (pv 5) pa_nil)))))
  (pss_cons (ps_set (i := 8) sc_law.nd rfl (by first | exact Or.inl rfl | exact Or.inr rfl) (pe_call (ok__law_known T) (hr.mono (by decide)) (by rfl) T.g__law_known T.F__law_known.kp T.b__law_known .nil pass0 (pa_cons (pv 6) (pa_cons (pv 2) (pa_cons (pe_op op_add (pe_callTy call_int1 (by rfl) T.m_int (by decide +kernel) (pa_cons (pv 5) pa_nil)) pe_int) pa_nil)))))
  (pss_cons (ps_set (i := 9) sc_law.nd rfl (by first | exact Or.inl rfl | exact Or.inr rfl) (pe_lst pa_nil))
  (pss_cons (ps_for PassesOwn.never rfl (pi_range1 (by rfl) T.m_range (pa_cons (pe_op op_add pe_int (pe_op op_mod (pe_call (ok__law_mixed T) (hr.mono (by decide)) (by rfl) T.g__law_mixed T.F__law_mixed.kp T.b__law_mixed .nil pass0 (pa_cons (pv 5) (pa_cons pe_int pa_nil))) pe_int)) pa_nil)) (pg_name (i := 10) sc_law.nd rfl (by first | exact Or.inl rfl | exact Or.inr rfl))
  (pss_cons (ps_set (i := 11) sc_law.nd rfl (by first | exact Or.inl rfl | exact Or.inr rfl) (pe_call (ok__law_mixed T) (hr.mono (by decide)) (by rfl) T.g__law_mixed T.F__law_mixed.kp T.b__law_mixed .nil pass0 (pa_cons (pv 5) (pa_cons (pe_op op_add pe_int (pv 10)) pa_nil))))
  (pss_one (ps_expr (pe_bm PySem.F.plainAttrs_list PySem.F.slot_list_append PySem.F.type_list_append mt_append (pv 9) (pa_cons (pe_op op_add (pe_op op_mod (pv 11) (pe_callB call_len_seq (by rfl) T.m_len PySem.boot_len (pa_cons (pv 6) pa_nil))) (pe_op op_mul (pv 3) (pe_op op_mod (pe_op op_fdiv (pv 11) pe_int) pe_int))) pa_nil))))))
  (pss_cons (ps_set (i := 12) sc_law.nd rfl (by first | exact Or.inl rfl | exact Or.inr rfl) (pe_callTy call_dictD (by rfl) T.m_dict (by decide +kernel) (pa_cons (pv 7) pa_nil)))
  (pss_cons (ps_set (i := 13) sc_law.nd rfl (by first | exact Or.inl rfl | exact Or.inr rfl) (pe_callTy call_list_of (by rfl) T.m_list (by decide +kernel) (pa_cons (pv 9) pa_nil)))
  (pss_cons (ps_set (i := 14) sc_law.nd rfl (by first | exact Or.inl rfl | exact Or.inr rfl) (pe_call (ok_use_line T) (hr.mono (by decide)) (by rfl) T.g_use_line T.F_use_line.kp T.b_use_line .nil pass0 (pa_cons (pv 4) (pa_cons (pv 7) (pa_cons (pe_ix ix_list (pv 9) pe_int (fun _ _ => rfl)) pa_nil)))))
  (pss_cons (ps_if (pt_cmpR (op_ne_dictA hr.units0) (pv 14) (pe_call (ok__law_due_line T) (hr.mono (by decide)) (by rfl) T.g__law_due_line T.F__law_due_line.kp T.b__law_due_line .nil pass0 (pa_cons (pv 12) (pa_cons (pv 3) (pa_cons (pv 2) (pa_cons (pe_ix ix_list (pv 9) pe_int (fun _ _ => rfl)) pa_nil))))) (nomark _))
  (pss_one (ps_ret pe_bl))
  pss_nil)
  (pss_cons (ps_if (pt_not (pt_val (pe_call (ok__law_true T) (hr.mono (by decide)) (by rfl) T.g__law_true T.F__law_true.kp T.b__law_true .nil pass0 (pa_cons (pv 14) (pa_cons (pe_call (ok__law_used T) (hr.mono (by decide)) (by rfl) T.g__law_used T.F__law_used.kp T.b__law_used .nil pass0 (pa_cons (pv 6) (pa_cons (pv 3) (pa_cons (pv 2) (pa_cons (pe_ix ix_list (pv 9) pe_int (fun _ _ => rfl)) pa_nil))))) (pa_cons (pv 3) pa_nil))))))
  (pss_one (ps_ret pe_bl))
  pss_nil)
  (pss_cons (ps_set (i := 15) sc_law.nd rfl (by first | exact Or.inl rfl | exact Or.inr rfl) (pe_call (ok_use_some T) (hr.mono (by decide)) (by rfl) T.g_use_some T.F_use_some.kp T.b_use_some .nil pass0 (pa_cons (pv 4) (pa_cons (pv 7) (pa_cons (pv 9) pa_nil)))))
  (pss_cons (ps_set (i := 16) sc_law.nd rfl (by first | exact Or.inl rfl | exact Or.inr rfl) (pe_call (ok__law_due_line T) (hr.mono (by decide)) (by rfl) T.g__law_due_line T.F__law_due_line.kp T.b__law_due_line .nil pass0 (pa_cons (pv 12) (pa_cons (pv 3) (pa_cons (pv 2) (pa_cons (pe_ix ix_list (pv 9) pe_int (fun _ _ => rfl)) pa_nil))))))
  (Evl.pss_cut (ps_if (pt_cmpR op_gt (pe_callB call_len_seq (by rfl) T.m_len PySem.boot_len (pa_cons (pe_lc (own := [("line", 17)]) (g := gName 17) rfl sc_law.nd (pi_list (pv 9)) (blkOk_by (N := ["script", "draw", "ways", "sets", "shape", "seed", "rows", "known", "other", "lines", "k", "at", "kept", "kept_lines", "told", "several", "due", "line", "common"]) (sc := defScope s_law) (by decide +kernel)) (fun _ _ _ _ _ => pg_name (i := 17) sc_law.nd rfl (Or.inl rfl)) (fun _ _ _ _ _ => pts_one (pt_cmpR op_ne (pv 17) (pe_ix (r := rIxL K) ix_list (pv 9) pe_int (fun _ _ => rfl)) (nomark _))) (fun _ _ _ _ _ => (pv 17))) pa_nil)) pe_int (nomark _))
  (pss_one (ps_set (i := 16) sc_law.nd rfl (by first | exact Or.inl rfl | exact Or.inr rfl) (pe_call (ok__law_aged T) (hr.mono (by decide)) (by rfl) T.g__law_aged T.F__law_aged.kp T.b__law_aged .nil pass0 (pa_cons (pv 12) (pa_cons (pv 3) (pa_cons (pv 2) (pa_cons (pe_lc (own := [("line", 17)]) (g := gName 17) (tt := tYes) rfl sc_law.nd (pi_list (pv 9)) (blkOk_by (N := ["script", "draw", "ways", "sets", "shape", "seed", "rows", "known", "other", "lines", "k", "at", "kept", "kept_lines", "told", "several", "due", "line", "common"]) (sc := defScope s_law) (by decide +kernel)) (fun _ _ _ _ _ => pg_name (i := 17) sc_law.nd rfl (Or.inl rfl)) (fun _ _ _ _ _ => pts_nil) (fun _ _ _ _ _ => (pe_op op_mod (pe_callTy call_int1 (by rfl) T.m_int (by decide +kernel) (pa_cons (pv 17) pa_nil)) (pv 3)))) (pa_cons (pv 2) (pa_cons (pe_un un_neg pe_int) pa_nil)))))))))
  pss_nil)
  (pss_cons (ps_if (pw_or (pt_cmpR (op_ne_dictA hr.units0) (pv 15) (pv 16) (nomark _)) (pw_or (pt_cmpR (op_ne_dictA hr.units0) (pv 7) (pv 12) (nomark _)) (pw_or1 (pt_cmpR (op_neD hr.units) (pv 9) (pv 13) (nomark _))))).pt
  (pss_one (ps_ret pe_bl))
  pss_nil)
  (pss_cons (ps_for PassesOwn.never rfl (pi_list (pv 9)) (pg_name (i := 17) sc_law.nd rfl (by first | exact Or.inl rfl | exact Or.inr rfl))
  (pss_one (ps_if (pt_not (pt_val (pe_call (ok__law_true T) (hr.mono (by decide)) (by rfl) T.g__law_true T.F__law_true.kp T.b__law_true .nil pass0 (pa_cons (pv 15) (pa_cons (pe_call (ok__law_used T) (hr.mono (by decide)) (by rfl) T.g__law_used T.F__law_used.kp T.b__law_used .nil pass0 (pa_cons (pv 6) (pa_cons (pv 3) (pa_cons (pv 2) (pa_cons (pv 17) pa_nil))))) (pa_cons (pv 3) pa_nil))))))
  (pss_one (ps_ret pe_bl))
  pss_nil)))
  (pss_cons (ps_set (i := 18) sc_law.nd rfl (by first | exact Or.inl rfl | exact Or.inr rfl) pe_dnewK)
  (pss_cons (ps_lock (ps_for PassesOwn.never rfl (pi_keys (pv 7)) (pg_name (i := 17) sc_law.nd rfl (by first | exact Or.inl rfl | exact Or.inr rfl))
  (pss_one (ps_if (pt_cmp (pc_din (hu_of hr) (pv 17) (pv 8)))
  (pss_one (ps_dput (hu_of hr) (pv 18) (pv 17) (pe_callB (call_max2 rfl) (by rfl) T.m_max (by decide +kernel) (pa_cons (pe_dget (hu_of hr) (pv 7) (pv 17) (fun _ _ => rfl)) (pa_cons (pe_dget (hu_of hr) (pv 8) (pv 17) (fun _ _ => rfl)) pa_nil))) rfl))
  pss_nil))))
  (pss_one (ps_ret (pe_and (pe_cmpR (op_eq_dictA hr.units0) (pe_call (ok_meet T) (hr.mono (by decide)) (by rfl) T.g_meet T.F_meet.kp T.b_meet .nil pass0 (pa_cons (pv 7) (pa_cons (pv 8) pa_nil))) (pv 18) (nomark _)) (pe_one (pe_cmpR (op_eq_dictA hr.units0) (pv 7) (pv 12) (nomark _)))))))))))))))))))))))))))), ?_⟩
    rw [show ∀ a0 : V, L2.start ["script", "draw", "ways", "sets", "shape", "seed", "rows", "known", "other", "lines", "k", "at", "kept", "kept_lines", "told", "several", "due", "line", "common"] [a0] = [some a0, none, none, none, none, none, none, none, none, none, none, none, none, none, none, none, none, none, none] from fun _ => rfl]
    walk_at "my rn"
    refine ⟨l, sc, 0, rfl, hsc, fun u hu => ?_⟩
    walk_at "my rn"
    intro o1 H1 no1 s1 ho1
    obtain ⟨W, eW⟩ : ∃ W, W = 1 + u % 4 := ⟨_, rfl⟩
    obtain ⟨S, eS⟩ : ∃ S, S = 1 + u / 4 % 64 := ⟨_, rfl⟩
    rw [← eW, ← eS]
    have hW : 1 ≤ W ∧ W ≤ 4 := by omega
    have hS : 1 ≤ S ∧ S ≤ 64 := by omega
    have hS0 : 0 < S := by omega
    have hW0 : 0 < W := by omega
    walk_at "my rn"
    obtain ⟨L, hL⟩ : ∃ L, [(1 : Int), 2, 4, 8, 16][(u / 256 % 5).toNat]? = some L := by
      have : (u / 256 % 5).toNat < 5 := by omega
      exact ⟨_, List.getElem?_eq_getElem this⟩
    refine Rd.ixL ho1 (Rd.at_int (ns := [1, 2, 4, 8, 16]) (j := (u / 256 % 5).toNat) (by omega) hL) ?_
    walk_at "my rn"
    intro t H2 nt s2 ht
    walk_at "my rn"
    refine ⟨l, sc, 1, rfl, (s1.trans s2).seq hsc, fun sd => ?_⟩
    walk_at "my rn"
    refine ⟨l, sc, 2, rfl, (s1.trans s2).seq hsc, fun sd2 => ?_⟩
    walk_at "my rn"
    refine ⟨S, W, _, rfl, hS.1, hS.2, hW.1, hW.2, fun G H3 rows nG s3 hG hc => ?_⟩
    walk_at "my rn"
    refine ⟨G, S, W, _, rows, rfl, hG, hc, hS.1, hW.2, fun D H4 m nD s4 hD kn => ?_⟩
    walk_at "my rn"
    refine ⟨G, S, W, _, rows, rfl, hG.same s4, hc, hS.1, hW.2, fun O H5 o nO s5 hO ko => ?_⟩
    walk_at "my rn"
    intro A H6 nA s6 hA
    walk_at "my rn"
    refine ⟨_, _, rfl, fun u3 hu3 => ?_⟩
    walk_at "my rn"
    have ht6 : ShapeAt K H6 t S W L := SqT.of ((s3.trans (s4.trans (s5.trans s6))) _ _ ht)
    have hG6 := hG.same (s4.trans (s5.trans s6))
    have hD6 := (s5.trans s6) _ _ hD
    have hO6 := s6 _ _ hO
    have nD5 : D ≠ A := ne_of_none (s5 _ _ hD) nA
    have DO : D ≠ O := ne_of_none hD nO
    obtain ⟨N, eN⟩ : ∃ N : Nat, (N : Int) = 1 + u3 % 5 := ⟨(1 + u3 % 5).toNat, by omega⟩
    rw [← eN, Int.toNat_natCast]
    have rl : 0 < rows.length ∧ (rows.length : Int) ≤ S := by have := hc.1; omega
    refine ⟨by omega, by omega, for_it walk_range (fun i σ H' => But A H5 H' ∧ ∃ (ns : List Int) (y10 y11 : Option V), σ = [some (.ref l), some (.int u), some (.int W), some (.int S), some (.ref t), some (.int sd), some (.ref G), some (.ref D), some (.ref O), some (.ref A), y10, y11, none, none, none, none, none, none, none] ∧ ns.length = i ∧ H' A = some (.lst (ns.map V.int)) ∧ ∀ n ∈ ns, (n % S).toNat < rows.length)
      ⟨But.same s6, [], none, none, rfl, rfl, hA, by simp⟩ (fun _ _ _ _ _ => trivial) ?_ ?_⟩
    · rintro i x σ H7 H7' hi ⟨b7, ns, y10, y11, rfl, ln, hA7, hn⟩ yy
      obtain ⟨rfl, e7⟩ := Rd.zr yy
      rw [e7]
      obtain ⟨ls, g1, g2⟩ := (hG.same (s4.trans s5)).len
      have g7 := (b7.to nA) _ _ g1
      walk_at "my rn"
      refine ⟨_, _, rfl, fun at_ hat => ?_⟩
      walk_at "my rn"
      rw [g2]
      refine Rd.I (Or.inl ⟨by omega, by omega⟩) ?_
      walk_at "my rn"
      refine Rd.app hA7 (Rd.szl (by rw [List.length_map]; omega)) ?_
      walk_at "my rn"
      refine ⟨b7.trans But.at_, ns ++ [at_ % (rows.length : Int) + S * (at_ / 7 % 6)], _, _, rfl, by simp [ln], by rw [upd_same, List.map_append]; rfl, fun n hn2 => ?_⟩
      rcases List.mem_append.mp hn2 with h | h
      · exact hn n h
      · rw [List.mem_singleton.mp h]
        have h1 := Int.emod_nonneg at_ (show (rows.length : Int) ≠ 0 by omega)
        have h2 := Int.emod_lt_of_pos at_ (show (0 : Int) < (rows.length : Int) by omega)
        rw [Int.add_mul_emod_self_left, Int.emod_eq_of_lt h1 (by omega)]
        omega
    rintro σ H7 ⟨b7, ns, y10, y11, rfl, ln, hA7, hn⟩
    have s57 := b7.to nA
    have ht7 : ShapeAt K H7 t S W L := SqT.of ((s3.trans (s4.trans (s5.trans s57))) _ _ ht)
    have hG7 := hG.same (s4.trans (s5.trans s57))
    have hD7 := (s5.trans s57) _ _ hD
    have hO7 := s57 _ _ hO
    obtain ⟨a, rs, rfl⟩ : ∃ a rs, ns = a :: rs := by
      cases ns with
      | nil => simp at ln; omega
      | cons a rs => exact ⟨a, rs, rfl⟩
    have ln5 : (a :: rs).length ≤ 5 := by omega
    walk_at "my rn"
    intro B H8 nB s8 hB
    have hA8 := s8 _ _ hA7
    walk_at "my rn"
    intro C H9 nC s9 hC
    have hA9 := s9 _ _ hA8
    have hD9 := s9 _ _ (s8 _ _ hD7)
    walk_at "my rn"
    refine Rd.ixL hA9 (Rd.at_int (j := 0) rfl rfl) ?_
    walk_at "my rn"
    refine ⟨t, D, S, W, L, a, m, rfl, (s8.trans s9).seqT ht7, hS0, hD9, kn.nd, Nat.le_trans kn.len (by decide), fun X H10 nX s10 hX => ?_⟩
    walk_at "my rn"
    have hA10 := s10 _ _ hA9
    refine Rd.ixL hA10 (Rd.at_int (j := 0) rfl rfl) ?_
    walk_at "my rn"
    refine ⟨B, S, W, a, m, rfl, hS0, s10 _ _ (s9 _ _ hB), kn.nd, Nat.le_trans kn.len (by decide), fun Y H11 nY s11 hY => ?_⟩
    obtain ⟨ud1, ud2⟩ := use_due (S := S) (W := W) (n := a) kn.nd
    refine neDictN (s11 _ _ hX) hY ud1 ud2 ?_
    walk_at "my rn"
    have hA11 := s11 _ _ hA10
    have s7_11 := s8.trans (s9.trans (s10.trans s11))
    have lr : rows.length ≤ 1000 := by have := hc.1; omega
    obtain ⟨r0, er0⟩ : ∃ r, rows[(a % S).toNat]? = some r := ⟨_, List.getElem?_eq_getElem (hn a List.mem_cons_self)⟩
    refine Rd.ixL hA11 (Rd.at_int (j := 0) rfl rfl) ?_
    walk_at "my rn"
    refine ⟨G, S, W, a, rows, r0, rfl, hS0, by omega, hG7.same s7_11, lr, er0, by have := (hc.2 _ _ er0).1; omega, fun Z H12 s12 hZ => ?_⟩
    walk_at "my rn"
    refine ⟨X, Z, S, _, _, rfl, hS0, s12 _ _ (s11 _ _ hX), ptN_keys (older_keys kn.nd), line_true hS0 hW0 kn.tr er0, hZ, fun H13 s13 => ?_⟩
    have s7_13 := s7_11.trans (s12.trans s13)
    have hA13 := s7_13 _ _ hA7
    walk_at "my rn"
    refine ⟨t, D, A, S, W, L, m, a :: rs, rfl, s7_13.seqT ht7, hS0, s7_13 _ _ hD7, kn.nd, Nat.le_trans kn.len (by decide), hA13, by simp, by omega, fun X2 H14 nX2 s14 hX2 => ?_⟩
    have hA14 := s14 _ _ hA13
    have s8_14 := (s9.trans (s10.trans (s11.trans (s12.trans (s13.trans s14)))))
    walk_at "my rn"
    refine Rd.ixL hA14 (Rd.at_int (j := 0) rfl rfl) ?_
    walk_at "my rn"
    refine ⟨B, S, W, a, m, rfl, hS0, s8_14 _ _ hB, kn.nd, Nat.le_trans kn.len (by decide), fun F0 H15 nF0 s15 hF0 => ?_⟩
    have s7_15 := s7_13.trans (s14.trans s15)
    have hA15 := s7_15 _ _ hA7
    have hB15 := s15 _ _ (s8_14 _ _ hB)
    have hX15 := s15 _ _ hX2
    obtain ⟨due, edue⟩ : ∃ due, due = if (a :: rs).filter (fun x => decide (x ≠ a)) = [] then dueLine S W m a else (older S W W ((a :: rs).map (· % S)) m).filter fun q => decide (q.1 ≠ -1) := ⟨_, rfl⟩
    walk_at "my rn"
    refine ⟨fun σ' H' => ∃ F, Same H15 H' ∧ H' F = some (DN due) ∧ σ' = [some (.ref l), some (.int u), some (.int W), some (.int S), some (.ref t), some (.int sd), some (.ref G), some (.ref D), some (.ref O), some (.ref A), y10, y11, some (.ref B), some (.ref C), some (.ref X), some (.ref X2), some (.ref F), none, none], ?_, ?_⟩
    · walk_at "my rn"
      intro M nM
      refine Rd.lc_fl (fun x => decide (x ≠ a)) (SqL.of hA15) nM (by omega) (fun i H3 x Kt Kn hi b kt kn => ?_) (fun H16 s16 hM => ?_)
      · simp only [List.map_cons, List.map_nil, L2.wipe, List.set_cons_succ, List.set_cons_zero]
        walk_at "my rn"
        refine ⟨rfl, ?_⟩
        have hA' := (b.to nM) _ _ hA15
        walk_at "my rn"
        refine Rd.ixL hA' (Rd.at_int (j := 0) rfl rfl) ?_
        walk_at "my rn"
        refine ifN (fun c => ?_) (fun c => ?_)
        · walk_at "my rn"
          exact kt (decide_eq_true fun z => c (by rw [z]))
        · exact kn (decide_eq_false fun z => z (V.int.inj c))
      walk_at "my rn"
      rw [List.length_map]
      refine ifD (fun c => ?_) (fun c => ?_)
      · have fe : ¬ (a :: rs).filter (fun x => decide (x ≠ a)) = [] := fun z => by rw [z] at c; simp at c
        have hA16 := s16 _ _ hA15
        walk_at "my rn"
        intro M2 nM2
        refine Rd.lc_rel (walk_list (xs := (a :: rs).map V.int)) (fun i v _ => v = .int (((a :: rs).getD i 0) % S)) nM2 (by rw [List.length_map]; omega) (fun i v _ _ h _ => h) (fun H' b => SqL.of ((b.to nM2) _ _ hA16)) (fun i x H3 H4 Kt hi b hDl y kt => ?_) (fun H17 vs lv hv s17 hM2 => ?_)
        · obtain ⟨rfl, hx⟩ := y
          rw [List.getElem?_map] at hx
          obtain ⟨n, hn2, rfl⟩ : ∃ n, (a :: rs)[i]? = some n ∧ V.int n = x := by
            cases e : (a :: rs)[i]? with
            | none => rw [e] at hx; cases hx
            | some n => rw [e] at hx; exact ⟨n, rfl, Option.some.inj hx⟩
          simp only [List.map_cons, List.map_nil, L2.wipe, List.set_cons_succ, List.set_cons_zero]
          walk_at "my rn"
          refine ⟨rfl, ?_⟩
          walk_at "my rn"
          exact kt _ _ (by rw [List.getD_eq_getElem?_getD, hn2]; rfl) (Same.refl _)
        rw [List.length_map] at lv
        have em := Rd.vals_map (fun i => ((a :: rs).getD i 0) % S) lv hv
        have em2 : vs = ((a :: rs).map (· % S)).map V.int := by
          rw [em]
          congr 1
          rw [show (fun i => ((a :: rs).getD i 0) % S) = (fun x : Int => x % S) ∘ fun i => (a :: rs).getD i 0 from rfl, ← List.map_map, range_getD]
        rw [em2] at hM2
        walk_at "my rn"
        refine ⟨B, M2, S, W, W, -1, m, (a :: rs).map (· % S), rfl, hS0, s17 _ _ (s16 _ _ hB15), kn.nd, Nat.le_trans kn.len (by decide), hM2, fun F H18 nF s18 hF => ?_⟩
        walk_at "my rn"
        exact ⟨F, s16.trans (s17.trans s18), by rw [edue, if_neg fe]; exact hF, rfl⟩
      · have fe : (a :: rs).filter (fun x => decide (x ≠ a)) = [] := List.length_eq_zero_iff.mp (by omega)
        walk_at "my rn"
        exact ⟨F0, s16, by rw [edue, if_pos fe]; exact s16 _ _ hF0, rfl⟩
    rintro σ' H16 ⟨F, s16, hF, e16⟩
    rw [e16]
    have s7_16 := s7_15.trans s16
    obtain ⟨sd1, sd2⟩ := some_due (S := S) (W := W) (a := a) (r := rs) kn.nd kn.pos
    rw [← edue] at sd1 sd2
    have hD16 := s7_16 _ _ hD7
    have hA16 := s7_16 _ _ hA7
    have hO16 := s7_16 _ _ hO7
    have hB16 := s16 _ _ hB15
    have hC16 := (s10.trans (s11.trans (s12.trans (s13.trans (s14.trans (s15.trans s16)))))) _ _ hC
    have hX16 := s16 _ _ hX15
    walk_at "my rn"
    refine neDictN hX16 hF sd1 sd2 ?_
    walk_at "my rn"
    refine neDictN hD16 hB16 rfl (fun p hp => lkN_mem kn.nd hp) ?_
    walk_at "my rn"
    refine Rd.neD (dp_ints (SqL.of hA16)) (dp_ints (SqL.of hC16)) (ints_shaped _) (ints_shaped _) ?_
    rw [eqv_ints, decide_eq_true rfl]
    walk_at "my rn"
    refine for_it (walk_list (xs := (a :: rs).map V.int)) (fun i σ H' => Same H16 H' ∧ ∃ y17, σ = [some (.ref l), some (.int u), some (.int W), some (.int S), some (.ref t), some (.int sd), some (.ref G), some (.ref D), some (.ref O), some (.ref A), y10, y11, some (.ref B), some (.ref C), some (.ref X), some (.ref X2), some (.ref F), y17, none]) ⟨Same.refl _, _, rfl⟩ (fun i σ H' _ h => SqL.of (h.1 _ _ hA16)) ?_ ?_
    · rintro i x σ H17 H17' hi ⟨s17, y17, rfl⟩ yy
      obtain ⟨e17, hx⟩ := yy
      rw [e17]
      obtain ⟨n, hn2, rfl⟩ := List.mem_map.mp (List.mem_of_getElem? hx)
      obtain ⟨r1, er1⟩ : ∃ r, rows[(n % S).toNat]? = some r := ⟨_, List.getElem?_eq_getElem (hn n hn2)⟩
      walk_at "my rn"
      refine ⟨G, S, W, n, rows, r1, rfl, hS0, by omega, hG7.same (s7_16.trans s17), lr, er1, by have := (hc.2 _ _ er1).1; omega, fun Z2 H18 s18 hZ2 => ?_⟩
      walk_at "my rn"
      have ku : ((useSome S W m (a :: rs)).map (·.1)).Nodup := by
        unfold useSome
        split
        · exact ptN_keys (older_keys kn.nd)
        · exact older_keys kn.nd
      refine ⟨X2, Z2, S, _, _, rfl, hS0, s18 _ _ (s17 _ _ hX16), ku, some_ok hS0 hW0 kn.tr hn2 er1, hZ2, fun H19 s19 => ?_⟩
      walk_at "my rn"
      exact ⟨s17.trans (s18.trans s19), _, rfl⟩
    rintro σ H17 ⟨s17, y17, rfl⟩
    have hD17 := s17 _ _ hD16
    have hO17 := s17 _ _ hO16
    have hB17 := s17 _ _ hB16
    walk_at "my rn"
    intro M H18 nM s18 hM
    have hD18 := s18 _ _ hD17
    have hO18 := s18 _ _ hO17
    have DM : D ≠ M := ne_of_none hD17 nM
    have OM : O ≠ M := ne_of_none hO17 nM
    walk_at "my rn"
    refine lockS hD18 fun od => ?_
    walk_at "my rn"
    refine for_it walk_keys (fun i σ H' => H' D = some (.frz od (DN m)) ∧ (∀ b o, b ≠ D → b ≠ M → H18 b = some o → H' b = some o) ∧ H' M = some (DN (meetOf (m.take i) o)) ∧ ∃ y17, σ = [some (.ref l), some (.int u), some (.int W), some (.int S), some (.ref t), some (.int sd), some (.ref G), some (.ref D), some (.ref O), some (.ref A), y10, y11, some (.ref B), some (.ref C), some (.ref X), some (.ref X2), some (.ref F), y17, some (.ref M)])
      ⟨upd_same, fun b o nb _ h => by rw [upd_ne nb]; exact h, by rw [upd_ne DM.symm]; exact hM, _, rfl⟩ (fun i σ H' _ h => h.1) ?_ ?_
    · rintro i x σ H19 H19' hi ⟨hf, k19, hM19, z17, rfl⟩ yy
      obtain ⟨e19, p, hp, rfl⟩ := keys_atN yy
      rw [e19]
      have hO19 := k19 _ _ DO.symm OM hO18
      have tk := fm_take (f := fun p => (lkN o p.1).map fun b => (p.1, if b > p.2 then b else p.2)) hp
      have fr : p.1 ∉ (meetOf (m.take i) o).map (·.1) := fm_fresh (f := fun p => (lkN o p.1).map fun b => (p.1, if b > p.2 then b else p.2)) (fun p q h => by
        cases e : lkN o p.1 with
        | none => rw [e] at h; cases h
        | some b => rw [e] at h; cases h; rfl) kn.nd hp
      have ll : (meetOf (m.take i) o).length ≤ 1000 := Nat.le_trans (List.length_filterMap_le _ _) (by have := kn.len; rw [List.length_take]; omega)
      walk_at "my rn"
      refine dinN (rd_of hO19) ?_
      walk_at "my rn"
      cases eo : lkN o p.1 with
      | none =>
        refine ifF ?_
        walk_at "my rn"
        have e2 : meetOf (m.take (i + 1)) o = meetOf (m.take i) o := by
          show (m.take (i + 1)).filterMap _ = _
          rw [tk, eo]; exact List.append_nil _
        exact ⟨hf, k19, by rw [e2]; exact hM19, _, rfl⟩
      | some b =>
        refine ifT ?_
        walk_at "my rn"
        refine dgetN (rd_fz hf) (lkN_mem kn.nd (List.mem_of_getElem? hp)) ?_
        walk_at "my rn"
        refine dgetN (rd_of hO19) eo ?_
        walk_at "my rn"
        refine dputN hM19 (by omega) ?_
        have e2 : meetOf (m.take (i + 1)) o = ptN (meetOf (m.take i) o) p.1 (if b > p.2 then b else p.2) := by
          rw [ptN_new fr]
          show (m.take (i + 1)).filterMap _ = _
          rw [tk, eo]; rfl
        exact ⟨by rw [upd_ne DM]; exact hf, fun b o n1 n2 h => by rw [upd_ne n2]; exact k19 b o n1 n2 h, by rw [upd_same, e2], _, rfl⟩
    · rintro σ H19 ⟨hf, k19, hM19, z17, rfl⟩
      refine ⟨hf, ?_⟩
      walk_at "my rn"
      rw [List.length_map, List.length_map, List.take_of_length_le (Nat.le_refl _)] at hM19
      have s20 : Same H17 (upd H19 D (DN m)) := fun b o h => by
        by_cases z : b = D
        · subst z; rw [upd_same]; exact hD17.symm.trans h
        · rw [upd_ne z]
          exact k19 b o z (fun z2 => by rw [z2, nM] at h; cases h) (s18 _ _ h)
      have hM20 : upd H19 D (DN m) M = some (DN (meetOf m o)) := by rw [upd_ne DM.symm]; exact hM19
      refine ⟨D, O, m, o, rfl, DO, s20 _ _ hD17, s20 _ _ hO17, kn.nd, Nat.le_trans kn.len (by decide), fun R H21 nR s21 hR => ?_⟩
      walk_at "my rn"
      refine eqDictN hR (s21 _ _ hM20) rfl (fun p hp => lkN_mem (meet_keys kn.nd) hp) ?_
      walk_at "my rn"
      refine eqDictN (s21 _ _ (s20 _ _ hD17)) (s21 _ _ (s20 _ _ hB17)) rfl (fun p hp => lkN_mem kn.nd hp) ?_
      walk_at "my rn"
      exact q _
end
def top_mk {P : Program} {w : World} {K : PySem.W.Frag} {h : Heap} {mg : Str → Option Value} (X : K.In h) (G : h.Ns mainGlobals mg)
    {a_use_line : Addr} {od_use_line an_use_line : Option Addr} {sl_use_line : Array (Option Value)} {oc_use_line kV_use_line dc_use_line pm_use_line cd_use_line ct_use_line : Value}
    {a_use_some : Addr} {od_use_some an_use_some : Option Addr} {sl_use_some : Array (Option Value)} {oc_use_some kV_use_some dc_use_some pm_use_some cd_use_some ct_use_some : Value}
    {a__older : Addr} {od__older an__older : Option Addr} {sl__older : Array (Option Value)} {oc__older kV__older dc__older pm__older cd__older ct__older : Value}
    {a_meet : Addr} {od_meet an_meet : Option Addr} {sl_meet : Array (Option Value)} {oc_meet kV_meet dc_meet pm_meet cd_meet ct_meet : Value}
    {a__law_cell : Addr} {od__law_cell an__law_cell : Option Addr} {sl__law_cell : Array (Option Value)} {oc__law_cell kV__law_cell dc__law_cell pm__law_cell cd__law_cell ct__law_cell : Value}
    {a__law_mixed : Addr} {od__law_mixed an__law_mixed : Option Addr} {sl__law_mixed : Array (Option Value)} {oc__law_mixed kV__law_mixed dc__law_mixed pm__law_mixed cd__law_mixed ct__law_mixed : Value}
    {a__law_rich : Addr} {od__law_rich an__law_rich : Option Addr} {sl__law_rich : Array (Option Value)} {oc__law_rich kV__law_rich dc__law_rich pm__law_rich cd__law_rich ct__law_rich : Value}
    {a__law_wide : Addr} {od__law_wide an__law_wide : Option Addr} {sl__law_wide : Array (Option Value)} {oc__law_wide kV__law_wide dc__law_wide pm__law_wide cd__law_wide ct__law_wide : Value}
    {a__law_contents : Addr} {od__law_contents an__law_contents : Option Addr} {sl__law_contents : Array (Option Value)} {oc__law_contents kV__law_contents dc__law_contents pm__law_contents cd__law_contents ct__law_contents : Value}
    {a__law_known : Addr} {od__law_known an__law_known : Option Addr} {sl__law_known : Array (Option Value)} {oc__law_known kV__law_known dc__law_known pm__law_known cd__law_known ct__law_known : Value}
    {a__law_true : Addr} {od__law_true an__law_true : Option Addr} {sl__law_true : Array (Option Value)} {oc__law_true kV__law_true dc__law_true pm__law_true cd__law_true ct__law_true : Value}
    {a__law_used : Addr} {od__law_used an__law_used : Option Addr} {sl__law_used : Array (Option Value)} {oc__law_used kV__law_used dc__law_used pm__law_used cd__law_used ct__law_used : Value}
    {a__law_aged : Addr} {od__law_aged an__law_aged : Option Addr} {sl__law_aged : Array (Option Value)} {oc__law_aged kV__law_aged dc__law_aged pm__law_aged cd__law_aged ct__law_aged : Value}
    {a__law_due_line : Addr} {od__law_due_line an__law_due_line : Option Addr} {sl__law_due_line : Array (Option Value)} {oc__law_due_line kV__law_due_line dc__law_due_line pm__law_due_line cd__law_due_line ct__law_due_line : Value}
    {a_law : Addr} {od_law an_law : Option Addr} {sl_law : Array (Option Value)} {oc_law kV_law dc_law pm_law cd_law ct_law : Value}
    (n_use_line : PySem.W.nsIn K mainGlobals "use_line" = some (some (.ref a_use_line)))
    (n_use_some : PySem.W.nsIn K mainGlobals "use_some" = some (some (.ref a_use_some)))
    (n__older : PySem.W.nsIn K mainGlobals "_older" = some (some (.ref a__older)))
    (n_meet : PySem.W.nsIn K mainGlobals "meet" = some (some (.ref a_meet)))
    (n__law_cell : PySem.W.nsIn K mainGlobals "_law_cell" = some (some (.ref a__law_cell)))
    (n__law_mixed : PySem.W.nsIn K mainGlobals "_law_mixed" = some (some (.ref a__law_mixed)))
    (n__law_rich : PySem.W.nsIn K mainGlobals "_law_rich" = some (some (.ref a__law_rich)))
    (n__law_wide : PySem.W.nsIn K mainGlobals "_law_wide" = some (some (.ref a__law_wide)))
    (n__law_contents : PySem.W.nsIn K mainGlobals "_law_contents" = some (some (.ref a__law_contents)))
    (n__law_known : PySem.W.nsIn K mainGlobals "_law_known" = some (some (.ref a__law_known)))
    (n__law_true : PySem.W.nsIn K mainGlobals "_law_true" = some (some (.ref a__law_true)))
    (n__law_used : PySem.W.nsIn K mainGlobals "_law_used" = some (some (.ref a__law_used)))
    (n__law_aged : PySem.W.nsIn K mainGlobals "_law_aged" = some (some (.ref a__law_aged)))
    (n__law_due_line : PySem.W.nsIn K mainGlobals "_law_due_line" = some (some (.ref a__law_due_line)))
    (n_law : PySem.W.nsIn K mainGlobals "law" = some (some (.ref a_law)))
    (l_use_line : K.lookup a_use_line = some ⟨oc_use_line, od_use_line, .func (PySem.W.fnOf "use_line" "use_line" (defArgs s_use_line) (defBody s_use_line) (defScope s_use_line) .none kV_use_line dc_use_line pm_use_line an_use_line cd_use_line ct_use_line), sl_use_line⟩)
    (c_use_line : PySem.W.codeIn K cd_use_line "use_line" = true)
    (k_use_line : PySem.W.keepIn K (.ref a_use_line) = true)
    (l_use_some : K.lookup a_use_some = some ⟨oc_use_some, od_use_some, .func (PySem.W.fnOf "use_some" "use_some" (defArgs s_use_some) (defBody s_use_some) (defScope s_use_some) .none kV_use_some dc_use_some pm_use_some an_use_some cd_use_some ct_use_some), sl_use_some⟩)
    (c_use_some : PySem.W.codeIn K cd_use_some "use_some" = true)
    (k_use_some : PySem.W.keepIn K (.ref a_use_some) = true)
    (l__older : K.lookup a__older = some ⟨oc__older, od__older, .func (PySem.W.fnOf "_older" "_older" (defArgs s__older) (defBody s__older) (defScope s__older) .none kV__older dc__older pm__older an__older cd__older ct__older), sl__older⟩)
    (c__older : PySem.W.codeIn K cd__older "_older" = true)
    (k__older : PySem.W.keepIn K (.ref a__older) = true)
    (l_meet : K.lookup a_meet = some ⟨oc_meet, od_meet, .func (PySem.W.fnOf "meet" "meet" (defArgs s_meet) (defBody s_meet) (defScope s_meet) .none kV_meet dc_meet pm_meet an_meet cd_meet ct_meet), sl_meet⟩)
    (c_meet : PySem.W.codeIn K cd_meet "meet" = true)
    (k_meet : PySem.W.keepIn K (.ref a_meet) = true)
    (l__law_cell : K.lookup a__law_cell = some ⟨oc__law_cell, od__law_cell, .func (PySem.W.fnOf "_law_cell" "_law_cell" (defArgs s__law_cell) (defBody s__law_cell) (defScope s__law_cell) .none kV__law_cell dc__law_cell pm__law_cell an__law_cell cd__law_cell ct__law_cell), sl__law_cell⟩)
    (c__law_cell : PySem.W.codeIn K cd__law_cell "_law_cell" = true)
    (k__law_cell : PySem.W.keepIn K (.ref a__law_cell) = true)
    (l__law_mixed : K.lookup a__law_mixed = some ⟨oc__law_mixed, od__law_mixed, .func (PySem.W.fnOf "_law_mixed" "_law_mixed" (defArgs s__law_mixed) (defBody s__law_mixed) (defScope s__law_mixed) .none kV__law_mixed dc__law_mixed pm__law_mixed an__law_mixed cd__law_mixed ct__law_mixed), sl__law_mixed⟩)
    (c__law_mixed : PySem.W.codeIn K cd__law_mixed "_law_mixed" = true)
    (k__law_mixed : PySem.W.keepIn K (.ref a__law_mixed) = true)
    (l__law_rich : K.lookup a__law_rich = some ⟨oc__law_rich, od__law_rich, .func (PySem.W.fnOf "_law_rich" "_law_rich" (defArgs s__law_rich) (defBody s__law_rich) (defScope s__law_rich) .none kV__law_rich dc__law_rich pm__law_rich an__law_rich cd__law_rich ct__law_rich), sl__law_rich⟩)
    (c__law_rich : PySem.W.codeIn K cd__law_rich "_law_rich" = true)
    (k__law_rich : PySem.W.keepIn K (.ref a__law_rich) = true)
    (l__law_wide : K.lookup a__law_wide = some ⟨oc__law_wide, od__law_wide, .func (PySem.W.fnOf "_law_wide" "_law_wide" (defArgs s__law_wide) (defBody s__law_wide) (defScope s__law_wide) .none kV__law_wide dc__law_wide pm__law_wide an__law_wide cd__law_wide ct__law_wide), sl__law_wide⟩)
    (c__law_wide : PySem.W.codeIn K cd__law_wide "_law_wide" = true)
    (k__law_wide : PySem.W.keepIn K (.ref a__law_wide) = true)
    (l__law_contents : K.lookup a__law_contents = some ⟨oc__law_contents, od__law_contents, .func (PySem.W.fnOf "_law_contents" "_law_contents" (defArgs s__law_contents) (defBody s__law_contents) (defScope s__law_contents) .none kV__law_contents dc__law_contents pm__law_contents an__law_contents cd__law_contents ct__law_contents), sl__law_contents⟩)
    (c__law_contents : PySem.W.codeIn K cd__law_contents "_law_contents" = true)
    (k__law_contents : PySem.W.keepIn K (.ref a__law_contents) = true)
    (l__law_known : K.lookup a__law_known = some ⟨oc__law_known, od__law_known, .func (PySem.W.fnOf "_law_known" "_law_known" (defArgs s__law_known) (defBody s__law_known) (defScope s__law_known) .none kV__law_known dc__law_known pm__law_known an__law_known cd__law_known ct__law_known), sl__law_known⟩)
    (c__law_known : PySem.W.codeIn K cd__law_known "_law_known" = true)
    (k__law_known : PySem.W.keepIn K (.ref a__law_known) = true)
    (l__law_true : K.lookup a__law_true = some ⟨oc__law_true, od__law_true, .func (PySem.W.fnOf "_law_true" "_law_true" (defArgs s__law_true) (defBody s__law_true) (defScope s__law_true) .none kV__law_true dc__law_true pm__law_true an__law_true cd__law_true ct__law_true), sl__law_true⟩)
    (c__law_true : PySem.W.codeIn K cd__law_true "_law_true" = true)
    (k__law_true : PySem.W.keepIn K (.ref a__law_true) = true)
    (l__law_used : K.lookup a__law_used = some ⟨oc__law_used, od__law_used, .func (PySem.W.fnOf "_law_used" "_law_used" (defArgs s__law_used) (defBody s__law_used) (defScope s__law_used) .none kV__law_used dc__law_used pm__law_used an__law_used cd__law_used ct__law_used), sl__law_used⟩)
    (c__law_used : PySem.W.codeIn K cd__law_used "_law_used" = true)
    (k__law_used : PySem.W.keepIn K (.ref a__law_used) = true)
    (l__law_aged : K.lookup a__law_aged = some ⟨oc__law_aged, od__law_aged, .func (PySem.W.fnOf "_law_aged" "_law_aged" (defArgs s__law_aged) (defBody s__law_aged) (defScope s__law_aged) .none kV__law_aged dc__law_aged pm__law_aged an__law_aged cd__law_aged ct__law_aged), sl__law_aged⟩)
    (c__law_aged : PySem.W.codeIn K cd__law_aged "_law_aged" = true)
    (k__law_aged : PySem.W.keepIn K (.ref a__law_aged) = true)
    (l__law_due_line : K.lookup a__law_due_line = some ⟨oc__law_due_line, od__law_due_line, .func (PySem.W.fnOf "_law_due_line" "_law_due_line" (defArgs s__law_due_line) (defBody s__law_due_line) (defScope s__law_due_line) .none kV__law_due_line dc__law_due_line pm__law_due_line an__law_due_line cd__law_due_line ct__law_due_line), sl__law_due_line⟩)
    (c__law_due_line : PySem.W.codeIn K cd__law_due_line "_law_due_line" = true)
    (k__law_due_line : PySem.W.keepIn K (.ref a__law_due_line) = true)
    (l_law : K.lookup a_law = some ⟨oc_law, od_law, .func (PySem.W.fnOf "law" "law" (defArgs s_law) (defBody s_law) (defScope s_law) .none kV_law dc_law pm_law an_law cd_law ct_law), sl_law⟩)
    (c_law : PySem.W.codeIn K cd_law "law" = true)
    (k_law : PySem.W.keepIn K (.ref a_law) = true)
    (z_set : PySem.W.nsIn K mainGlobals "set" = some none)
    (z_len : PySem.W.nsIn K mainGlobals "len" = some none)
    (z_max : PySem.W.nsIn K mainGlobals "max" = some none)
    (z_int : PySem.W.nsIn K mainGlobals "int" = some none)
    (z_range : PySem.W.nsIn K mainGlobals "range" = some none)
    (z_min : PySem.W.nsIn K mainGlobals "min" = some none)
    (z_bool : PySem.W.nsIn K mainGlobals "bool" = some none)
    (z_isinstance : PySem.W.nsIn K mainGlobals "isinstance" = some none)
    (z_dict : PySem.W.nsIn K mainGlobals "dict" = some none)
    (z_list : PySem.W.nsIn K mainGlobals "list" = some none) :
    Top K mg :=
  { a_use_line := a_use_line,
    d_use_line := _,
    F_use_line := fun_mk (st := s_use_line) l_use_line c_use_line k_use_line,
    g_use_line := PySem.W.mg_of X G n_use_line,
    b_use_line := (fun_mk (st := s_use_line) l_use_line c_use_line k_use_line).binds (ps := ["shape", "known", "number"]) fun _ _ _ _ _ _ us hl => match us, hl with | [_, _, _], _ => rfl,
    a_use_some := a_use_some,
    d_use_some := _,
    F_use_some := fun_mk (st := s_use_some) l_use_some c_use_some k_use_some,
    g_use_some := PySem.W.mg_of X G n_use_some,
    b_use_some := (fun_mk (st := s_use_some) l_use_some c_use_some k_use_some).binds (ps := ["shape", "known", "numbers"]) fun _ _ _ _ _ _ us hl => match us, hl with | [_, _, _], _ => rfl,
    a__older := a__older,
    d__older := _,
    F__older := fun_mk (st := s__older) l__older c__older k__older,
    g__older := PySem.W.mg_of X G n__older,
    b__older := (fun_mk (st := s__older) l__older c__older k__older).binds (ps := ["shape", "known", "numbers", "limit"]) fun _ _ _ _ _ _ us hl => match us, hl with | [_, _, _, _], _ => rfl,
    a_meet := a_meet,
    d_meet := _,
    F_meet := fun_mk (st := s_meet) l_meet c_meet k_meet,
    g_meet := PySem.W.mg_of X G n_meet,
    b_meet := (fun_mk (st := s_meet) l_meet c_meet k_meet).binds (ps := ["known", "other"]) fun _ _ _ _ _ _ us hl => match us, hl with | [_, _], _ => rfl,
    a__law_cell := a__law_cell,
    d__law_cell := _,
    F__law_cell := fun_mk (st := s__law_cell) l__law_cell c__law_cell k__law_cell,
    g__law_cell := PySem.W.mg_of X G n__law_cell,
    b__law_cell := (fun_mk (st := s__law_cell) l__law_cell c__law_cell k__law_cell).binds (ps := ["script", "k"]) fun _ _ _ _ _ _ us hl => match us, hl with | [_, _], _ => rfl,
    a__law_mixed := a__law_mixed,
    d__law_mixed := _,
    F__law_mixed := fun_mk (st := s__law_mixed) l__law_mixed c__law_mixed k__law_mixed,
    g__law_mixed := PySem.W.mg_of X G n__law_mixed,
    b__law_mixed := (fun_mk (st := s__law_mixed) l__law_mixed c__law_mixed k__law_mixed).binds (ps := ["seed", "k"]) fun _ _ _ _ _ _ us hl => match us, hl with | [_, _], _ => rfl,
    a__law_rich := a__law_rich,
    d__law_rich := _,
    F__law_rich := fun_mk (st := s__law_rich) l__law_rich c__law_rich k__law_rich,
    g__law_rich := PySem.W.mg_of X G n__law_rich,
    b__law_rich := (fun_mk (st := s__law_rich) l__law_rich c__law_rich k__law_rich).binds (ps := ["cell", "k"]) fun _ _ _ _ _ _ us hl => match us, hl with | [_, _], _ => rfl,
    a__law_wide := a__law_wide,
    d__law_wide := _,
    F__law_wide := fun_mk (st := s__law_wide) l__law_wide c__law_wide k__law_wide,
    g__law_wide := PySem.W.mg_of X G n__law_wide,
    b__law_wide := (fun_mk (st := s__law_wide) l__law_wide c__law_wide k__law_wide).binds (ps := ["script", "k"]) fun _ _ _ _ _ _ us hl => match us, hl with | [_, _], _ => rfl,
    a__law_contents := a__law_contents,
    d__law_contents := _,
    F__law_contents := fun_mk (st := s__law_contents) l__law_contents c__law_contents k__law_contents,
    g__law_contents := PySem.W.mg_of X G n__law_contents,
    b__law_contents := (fun_mk (st := s__law_contents) l__law_contents c__law_contents k__law_contents).binds (ps := ["sets", "ways", "seed"]) fun _ _ _ _ _ _ us hl => match us, hl with | [_, _, _], _ => rfl,
    a__law_known := a__law_known,
    d__law_known := _,
    F__law_known := fun_mk (st := s__law_known) l__law_known c__law_known k__law_known,
    g__law_known := PySem.W.mg_of X G n__law_known,
    b__law_known := (fun_mk (st := s__law_known) l__law_known c__law_known k__law_known).binds (ps := ["rows", "ways", "seed"]) fun _ _ _ _ _ _ us hl => match us, hl with | [_, _, _], _ => rfl,
    a__law_true := a__law_true,
    d__law_true := _,
    F__law_true := fun_mk (st := s__law_true) l__law_true c__law_true k__law_true,
    g__law_true := PySem.W.mg_of X G n__law_true,
    b__law_true := (fun_mk (st := s__law_true) l__law_true c__law_true k__law_true).binds (ps := ["known", "rows", "sets"]) fun _ _ _ _ _ _ us hl => match us, hl with | [_, _, _], _ => rfl,
    a__law_used := a__law_used,
    d__law_used := _,
    F__law_used := fun_mk (st := s__law_used) l__law_used c__law_used k__law_used,
    g__law_used := PySem.W.mg_of X G n__law_used,
    b__law_used := (fun_mk (st := s__law_used) l__law_used c__law_used k__law_used).binds (ps := ["rows", "sets", "ways", "line"]) fun _ _ _ _ _ _ us hl => match us, hl with | [_, _, _, _], _ => rfl,
    a__law_aged := a__law_aged,
    d__law_aged := _,
    F__law_aged := fun_mk (st := s__law_aged) l__law_aged c__law_aged k__law_aged,
    g__law_aged := PySem.W.mg_of X G n__law_aged,
    b__law_aged := (fun_mk (st := s__law_aged) l__law_aged c__law_aged k__law_aged).binds (ps := ["known", "sets", "ways", "touched", "limit", "without"]) fun _ _ _ _ _ _ us hl => match us, hl with | [_, _, _, _, _, _], _ => rfl,
    a__law_due_line := a__law_due_line,
    d__law_due_line := _,
    F__law_due_line := fun_mk (st := s__law_due_line) l__law_due_line c__law_due_line k__law_due_line,
    g__law_due_line := PySem.W.mg_of X G n__law_due_line,
    b__law_due_line := (fun_mk (st := s__law_due_line) l__law_due_line c__law_due_line k__law_due_line).binds (ps := ["known", "sets", "ways", "line"]) fun _ _ _ _ _ _ us hl => match us, hl with | [_, _, _, _], _ => rfl,
    a_law := a_law,
    d_law := _,
    F_law := fun_mk (st := s_law) l_law c_law k_law,
    g_law := PySem.W.mg_of X G n_law,
    b_law := (fun_mk (st := s_law) l_law c_law k_law).binds (ps := ["script"]) fun _ _ _ _ _ _ us hl => match us, hl with | [_], _ => rfl,
    m_set := PySem.W.mg_none_of X G z_set,
    m_len := PySem.W.mg_none_of X G z_len,
    m_max := PySem.W.mg_none_of X G z_max,
    m_int := PySem.W.mg_none_of X G z_int,
    m_range := PySem.W.mg_none_of X G z_range,
    m_min := PySem.W.mg_none_of X G z_min,
    m_bool := PySem.W.mg_none_of X G z_bool,
    m_isinstance := PySem.W.mg_none_of X G z_isinstance,
    m_dict := PySem.W.mg_none_of X G z_dict,
    m_list := PySem.W.mg_none_of X G z_list }
theorem all_mk {l : PySem.W.OpenLaw} {w : World} {K : PySem.W.Frag} {mg : Str → Option Value} {fa : Addr} (T : Top K mg) (hfa : mg "law" = some (.ref fa)) :
    ∃ fd : FuncData, (∀ (s : Shared) (v : Value), BindsTo s fd ⟨[v], []⟩ [("script", v)]) ∧ ∀ base : Heap, K.In base → base.Ns mainGlobals mg → FnOk l.prog w K mg base CX0 4 fa fd ["script"] (sp_law K) := by
  have e := hfa.symm.trans T.g_law
  cases e
  refine ⟨T.d_law, fun s v => ?_, fun base _ _ => ok_law T⟩
  obtain ⟨oc, od, kV, doc, pm, an, cdv, ct, osl, e, lk, hcd⟩ := T.F_law.ex
  rw [e]
  exact .of_eq rfl
end Mine
open PySem PySem.W PyProof.Rows
set_option maxHeartbeats 0 in
theorem PySem.Challenge.cw_deadbeat_k34_what_is_known_stays_true_holds : PySem.Challenge.rw_deadbeat_k34_what_is_known_stays_true.Holds := by
  w_on; o_law; k_head; (case hw => w_witness2)
  k_fill
  refine L2.walk_of (l := PySem.Challenge.rw_deadbeat_k34_what_is_known_stays_true) (n := 63) (k := 4) (x := "script") (CX := fun _ => L2.CX0) (sp := fun w => Mine.sp_law _) rfl (by decide) rfl ⟨rfl, by decide, by decide⟩ (fun w h Y => PySem.W.kIn_of Y) ?F (fun _ _ a ns hl _ hS => ⟨a, ns, rfl, hS, hl, fun _ => rfl⟩) (fun _ _ _ _ _ h => h)
  case F =>
    intro w mg fa h KX G hmg
    refine' Mine.all_mk (Mine.top_mk (P := PySem.Challenge.rw_deadbeat_k34_what_is_known_stays_true.prog) (w := w) KX G ?n_use_line ?n_use_some ?n__older ?n_meet ?n__law_cell ?n__law_mixed ?n__law_rich ?n__law_wide ?n__law_contents ?n__law_known ?n__law_true ?n__law_used ?n__law_aged ?n__law_due_line ?n_law ?l_use_line ?c_use_line ?k_use_line ?l_use_some ?c_use_some ?k_use_some ?l__older ?c__older ?k__older ?l_meet ?c_meet ?k_meet ?l__law_cell ?c__law_cell ?k__law_cell ?l__law_mixed ?c__law_mixed ?k__law_mixed ?l__law_rich ?c__law_rich ?k__law_rich ?l__law_wide ?c__law_wide ?k__law_wide ?l__law_contents ?c__law_contents ?k__law_contents ?l__law_known ?c__law_known ?k__law_known ?l__law_true ?c__law_true ?k__law_true ?l__law_used ?c__law_used ?k__law_used ?l__law_aged ?c__law_aged ?k__law_aged ?l__law_due_line ?c__law_due_line ?k__law_due_line ?l_law ?c_law ?k_law ?z_set ?z_len ?z_max ?z_int ?z_range ?z_min ?z_bool ?z_isinstance ?z_dict ?z_list) hmg
    (case n_use_line => k_is); (case n_use_some => k_is); (case n__older => k_is); (case n_meet => k_is); (case n__law_cell => k_is); (case n__law_mixed => k_is); (case n__law_rich => k_is); (case n__law_wide => k_is); (case n__law_contents => k_is); (case n__law_known => k_is); (case n__law_true => k_is); (case n__law_used => k_is); (case n__law_aged => k_is); (case n__law_due_line => k_is); (case n_law => k_is); (case l_use_line => k_is); (case c_use_line => k_is); (case k_use_line => k_is); (case l_use_some => k_is); (case c_use_some => k_is); (case k_use_some => k_is); (case l__older => k_is); (case c__older => k_is); (case k__older => k_is); (case l_meet => k_is); (case c_meet => k_is); (case k_meet => k_is); (case l__law_cell => k_is); (case c__law_cell => k_is); (case k__law_cell => k_is); (case l__law_mixed => k_is); (case c__law_mixed => k_is); (case k__law_mixed => k_is); (case l__law_rich => k_is); (case c__law_rich => k_is); (case k__law_rich => k_is); (case l__law_wide => k_is); (case c__law_wide => k_is); (case k__law_wide => k_is); (case l__law_contents => k_is); (case c__law_contents => k_is); (case k__law_contents => k_is); (case l__law_known => k_is); (case c__law_known => k_is); (case k__law_known => k_is); (case l__law_true => k_is); (case c__law_true => k_is); (case k__law_true => k_is); (case l__law_used => k_is); (case c__law_used => k_is); (case k__law_used => k_is); (case l__law_aged => k_is); (case c__law_aged => k_is); (case k__law_aged => k_is); (case l__law_due_line => k_is); (case c__law_due_line => k_is); (case k__law_due_line => k_is); (case l_law => k_is); (case c_law => k_is); (case k_law => k_is); (case z_set => k_is); (case z_len => k_is); (case z_max => k_is); (case z_int => k_is); (case z_range => k_is); (case z_min => k_is); (case z_bool => k_is); (case z_isinstance => k_is); (case z_dict => k_is); (case z_list => k_is)

