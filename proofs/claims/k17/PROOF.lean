import PyProof.Rows.All
import Wide.All
import OpenK.AllK
import Wide.FinOn
import PyProof.RulesMatch
import HandS.Base
import HandS.Call
import HandS.Words
import HandS.IsInst
import HandS.ForExc
import HandS.Zip
import HandS.Walk
import HandS.Strs
import KE.KExcSuper
import KE.KSuperObj
import KE.KSuper
import HandS.ForMost
import HandS.ExcInit
import HandS.ExcSuper
import HandS.ExcField
import HandS.ExcIs
import KE.KExcIs
import KE.KIsAll
import PySem.Challenge.RW_deadbeat_k17_code_words_come_back
import HandS.Wide
import HandS.WideBits
import HandS.Style
import HandS.EndBits
import HandS.StrMore
import HandS.IntHex
import HandS.ReSub
import HandS.Codes
import HandS.Evl
import HandS.RaiseMore
import HandS.More
import HandS.SetFor
import HandS.TupLe
set_option Elab.async false
set_option linter.all false
set_option maxRecDepth 100000
namespace L2
open PySem PySem.Spec PyProof.Rows
/-- the cases of a match over texts: a written text or whatever is left, and what is done -/
def tCases (z : Str) : List (Option Str × TS) → TS
  | [] => fun D σ H => D.nx σ H
  | (none, t) :: _ => t
  | (some c, t) :: r => fun D σ H => if z = c then t D σ H else tCases z r D σ H
def tMatch (te : TE) (l : List (Option Str × TS)) : TS := fun D σ H => te σ H fun x H1 => ∃ z : Str, x = .str z ∧ tCases z l D σ H1
inductive PCs (X : Cx) : List MatchCase → List (Option Str × TS) → Prop
  | nil : PCs X [] []
  | rest {body : List Stmt} {t : TS} {p : Pos} {r : List MatchCase} : PSs X body t → PCs X (⟨.MatchAs none none p, none, body⟩ :: r) [(none, t)]
  | text {body : List Stmt} {t : TS} {c : Str} {j : Nat} {p p2 : Pos} {r : List MatchCase} {l : List (Option Str × TS)} : PSs X body t → PCs X r l →
      PCs X (⟨.MatchValue (.Constant (.str c) j p) p2, none, body⟩ :: r) ((some c, t) :: l)
theorem run_cases {X : Cx} {z : Str} {u : Value} (ru : RelV (.str z) u) : ∀ {cs : List MatchCase} {l : List (Option Str × TS)}, PCs X cs l → ∀ (first : Bool) (pins : List (Addr × Obj)) (s : Shared) (σ : St) (H : Hp) (D : Ends), Inv X pins σ H s → tCases z l D σ H →
    wpAny (model X.prog X.w) X.A (matchCases cs X.env u first) (SP X pins D) X.xe s
  | _, _, .nil, first, pins, s, σ, H, D, I, h => wpAny_matchCases_nil ⟨σ, H, I, h⟩
  | _, _, .rest hb, first, pins, s, σ, H, D, I, h => by
    refine wpAny_matchCases_cons (wpAny_matchPattern_Capture ?_)
    exact wpAny_assignInOrder_none (hb.run pins s σ H D I h)
  | _, _, .text (c := c) (l := l) hb hr, first, pins, s, σ, H, D, I, h => by
    refine wpAny_matchCases_cons (wpAny_matchPattern_Value ?_)
    refine thn ((pe_str (X := X) (x := c)).run pins s σ H (fun v H' => v = .str c ∧ H' = H) I ⟨rfl, rfl⟩) fun v s1 hh => ?_
    obtain ⟨x, H1, I1, rx, ex, eH⟩ := hh
    subst ex
    subst eH
    refine thn (op_eq pins s1 σ H1 (.str z) (.str c) u v (fun y H' => y = .bl (decide (V.str z = V.str c)) ∧ H' = H1) I1 ru rx ⟨rfl, rfl, rfl⟩) fun y s2 hh => ?_
    obtain ⟨x, H2, I2, rx2, ex, eH⟩ := hh
    subst ex
    subst eH
    cases rx2
    refine wpAny_truthy_bool ?_
    have h' : (if z = c then _ else _) := h
    by_cases e : z = c
    · rw [if_pos e] at h'
      rw [decide_eq_true (by rw [e])]
      exact wpAny_assignInOrder_none (hb.run pins s2 σ H2 D I2 h')
    · rw [if_neg e] at h'
      rw [decide_eq_false (fun q => e (by injection q))]
      exact run_cases ru hr false pins s2 σ H2 D I2 h'
theorem ps_match {X : Cx} {e : Expr} {te : TE} {cs : List MatchCase} {l : List (Option Str × TS)} {pos : Pos} (he : PE X e te) (hc : PCs X cs l) : PS X (.Match e cs pos) (tMatch te l) := by
  refine ⟨fun pins s σ H D I h => wpAny_Match ?_⟩
  refine thn (he.run pins s σ H _ I h) fun u s1 hh => ?_
  obtain ⟨x, H1, I1, rx, z, ez, hz⟩ := hh
  subst ez
  exact run_cases rx hc true pins s1 σ H1 D I1 hz
/-- a module's constant: an int, a text, an object -/
theorem pe_gi {X : Cx} {x : Str} {n : Int} {t : Tok} {pos : Pos} (hg : Gl X x) (hm : X.mg x = some (.int n t)) (hd : (x == ("__debug__" : Str)) = false := by decide) : PE X (.Name x pos) (tC (.int n)) := pe_glob hg hm ⟨_, rfl⟩ hd
theorem pe_gs {X : Cx} {x : Str} {z : Str} {t : Tok} {pos : Pos} (hg : Gl X x) (hm : X.mg x = some (.str z t)) (hd : (x == ("__debug__" : Str)) = false := by decide) : PE X (.Name x pos) (tC (.str z)) := pe_glob hg hm ⟨_, rfl⟩ hd
theorem pe_gr {X : Cx} {x : Str} {a : Addr} {pos : Pos} (hg : Gl X x) (hm : X.mg x = some (.ref a)) (hd : (x == ("__debug__" : Str)) = false := by decide) : PE X (.Name x pos) (tC (.ref a)) := pe_glob (v := .ref a) hg hm rfl hd
/-- a built-in type as a value -/
theorem pe_ty {X : Cx} {x : Str} {T : String} {pos : Pos} (hg : Gl X x) (hm : X.mg x = none) (hv : bootBuiltins x = some (.type T)) (hn : x ≠ "__name__" := by decide) (hd : (x == ("__debug__" : Str)) = false := by decide) : PE X (.Name x pos) (tC (.ty T)) :=
  ⟨fun _ s _ H _ I h => ld_blt I hg hm hv ⟨.ty T, H, I, rfl, h⟩ hn hd⟩
/-- isinstance of a plain value and a built-in type -/
theorem isi_int {K : PySem.W.Frag} {H : Hp} {Q : VK} {i : Int} (q : Q (.bl true) H) : rIsi K [.int i, .ty "int"] H Q := ⟨_, _, _, _, true, rfl, .ty _, .base (.int _), kit_ty (by decide +kernel), q⟩
theorem isi_int_bool {K : PySem.W.Frag} {H : Hp} {Q : VK} {i : Int} (q : Q (.bl false) H) : rIsi K [.int i, .ty "bool"] H Q := ⟨_, _, _, _, false, rfl, .ty _, .base (.int _), kit_ty (by decide +kernel), q⟩
theorem Same.none {H H' : Hp} (e : Same H H') {p : Addr} (h : H' p = Option.none) : H p = Option.none := Same.free e h
theorem same_new {H : Hp} {p : Addr} {o : HO} (h : H p = Option.none) : Same H (upd H p o) := fun b x e => by
  rw [upd_ne (ne_of_none e h)]
  exact e
theorem or_test {t u : TT} {σ : St} {H : Hp} {a b : Bool} {Q : Bool → Hp → Prop} (h1 : ∀ Q' : Bool → Hp → Prop, Q' a H → t σ H Q') (h2 : a = false → ∀ Q' : Bool → Hp → Prop, Q' b H → u σ H Q') (q : Q (a || b) H) : tOr t u σ H Q := by
  refine h1 _ ?_
  cases a with
  | true => exact iteT q
  | false => exact iteF (h2 rfl _ q)
theorem and_test {t u : TT} {σ : St} {H : Hp} {a b : Bool} {Q : Bool → Hp → Prop} (h1 : ∀ Q' : Bool → Hp → Prop, Q' a H → t σ H Q') (h2 : a = true → ∀ Q' : Bool → Hp → Prop, Q' b H → u σ H Q') (q : Q (a && b) H) : tAnd t u σ H Q := by
  refine h1 _ ?_
  cases a with
  | true => exact iteT (h2 rfl _ q)
  | false => exact iteF q
theorem if_or {t u : TT} {a b : Bool} {A B : TS} {D : Ends} {σ : St} {H : Hp} (h1 : ∀ Q' : Bool → Hp → Prop, Q' a H → t σ H Q') (h2 : a = false → ∀ Q' : Bool → Hp → Prop, Q' b H → u σ H Q') (q : if (a || b) = true then A D σ H else B D σ H) : tIfS (tOr t u) A B D σ H := or_test h1 h2 q
theorem if_and {t u : TT} {a b : Bool} {A B : TS} {D : Ends} {σ : St} {H : Hp} (h1 : ∀ Q' : Bool → Hp → Prop, Q' a H → t σ H Q') (h2 : a = true → ∀ Q' : Bool → Hp → Prop, Q' b H → u σ H Q') (q : if (a && b) = true then A D σ H else B D σ H) : tIfS (tAnd t u) A B D σ H := and_test h1 h2 q
theorem Same.off {H H1 : Hp} {D : Addr} {x : HO} (k : Same H H1) (n : H D = Option.none) : Same H (upd H1 D x) := fun b y e => by
  rw [upd_ne (ne_of_none e n)]
  exact k b y e
theorem Same.seqT {K : PySem.W.Frag} {H H' : Hp} {a : Addr} {xs : List V} (e : Same H H') (h : SqT K H a xs) : SqT K H' a xs := by
  rcases h with h | h
  · rcases h with h | ⟨o, h⟩
    · exact .inl (.inl (e _ _ h))
    · exact .inl (.inr ⟨o, e _ _ h⟩)
  · exact .inr h
/-- a def that may raise, called where it does not -/
theorem pass_no {X : Cx} : Passes (L2.CX X.prog X.w) X (fun _ _ _ => False) := fun _ _ _ _ _ _ _ c => by
  obtain ⟨_, _, _, _, _, _, _, _, _, _, _, _, z⟩ := c
  exact z.elim
def rListOf (K : PySem.W.Frag) : List V → Hp → VK → Prop := fun xs H Q => ∃ p ys, xs = [V.ref p] ∧ (SqL K H p ys ∨ SqT K H p ys) ∧ ∀ l, H l = Option.none → Q (.ref l) (upd H l (.lst ys))
theorem if_t {b : Bool} {A B : Prop} (h : b = true) (q : A) : if b = true then A else B := by
  rw [if_pos h]
  exact q
theorem if_f {b : Bool} {A B : Prop} (h : b = false) (q : B) : if b = true then A else B := by
  rw [if_neg (by rw [h]; exact Bool.noConfusion)]
  exact q
/-- a tuple of the written part, as it stands there -/
theorem sqT_lit {K : PySem.W.Frag} {p : Addr} {dd : Option Addr} {us : Array Value} {n : Nat} {sl : Array (Option Value)} {xs : List V} {H : Hp} (w : K.lookup p = some ⟨.type "tuple", dd, .seq us n, sl⟩) (y : Vals xs us.toList) (hl : xs.length ≤ sizeLine := by decide) : SqT K H p xs :=
  .inr ⟨_, us, n, w, rfl, rfl, Nat.le_trans (Nat.le_of_eq (by rw [← Array.length_toList]; exact (Paired.length y).symm)) hl, y⟩
end L2

set_option Elab.async false
set_option linter.all false
set_option maxRecDepth 100000
set_option maxHeartbeats 4000000
/-! # An error of the program's own: its maker calls that of ValueError with a text, then keeps one value -/
namespace PySem
namespace Errs
open PySem.W PySem.Calls PyProof.Rows PySem.HandSPX
/-! ### the text of the maker -/
def eA (fld : Str) (p1 p2 : Pos) : Arguments :=
  { posonlyargs := [], args := [⟨"self", none, p1⟩, ⟨fld, none, p2⟩], vararg := none, kwonlyargs := [], kw_defaults := [], kwarg := none, defaults := [] }
def eB (fld : Str) (parts : List Expr) (mp : Pos) (q1 q2 q3 q4 q5 q6 q7 q8 q9 : Pos) : List Stmt :=
  [.Expr (.Call (.Attribute (.Call (.Name "super" q1) [] [] q2) "__init__" q3) [.JoinedStr parts mp] [] q4) q5,
   .Assign [.Attribute (.Name "self" q6) fld q7] (.Name fld q8) q9]
def eS (fld : Str) (ex : List (Str × NameKind)) : Scope :=
  { kind := .function, names := [(PySem.Str.ofString "self", .local), (fld, .local), (PySem.Str.ofString "__class__", .free), (PySem.Str.ofString "super", .globalImplicit)] ++ ex, isGenerator := false, isCoroutine := false, more := [] }
/-- all is kept but the slots of the frames at fs -/
structure KeepF (fs : List Addr) (h h' : Heap) : Prop where
  keep : ∀ b o, b ∉ fs → h.get? b = some o → h'.get? b = some o
  slot : ∀ b o, h.get? b = some o → ∃ sl, h'.get? b = some { o with slots := sl }
theorem KeepF.of {fs : List Addr} {h h' : Heap} (k : ∀ b o, h.get? b = some o → h'.get? b = some o) : KeepF fs h h' := ⟨fun b o _ e => k b o e, fun b o e => ⟨o.slots, k b o e⟩⟩
theorem KeepF.of_un {fs : List Addr} {h h' : Heap} {H' : L2.Hp} (u : L2.Un fs [] (fun _ => none) H' h h') : KeepF fs h h' :=
  ⟨fun b o n e => u.keep b o e rfl n (by simp), fun b o e => u.any e rfl (by simp)⟩
/-- the message comes to some text; what stood is kept -/
def MsgOk (P : Program) (w : World) (K : Frag) (mg : Str → Option Value) (base : Heap) (lv : Nat) (ex : List (Str × NameKind)) (parts : List Expr) (mp : Pos) (fld : Str) (v : Value) : Prop :=
  ∀ (A : Around) (outer : List Env) (E : Value → Shared → Prop) (s : Shared) (env : Env) (m : Str → Option Value) (Q : Value → Shared → Prop),
    env.scope = eS fld ex → env.globals = mainGlobals → env.builtins = builtinsNs → L2.Room lv A → L2.Env0 P w K mg base A outer s (fun _ => none) →
    s.heap.Ns env.locals m → m fld = some v → (∀ u s', s'.os = s.os → AllBare s'.gens → KeepF (L2.frs outer) s.heap s'.heap → Q u s') →
    wpAny (model P w) A (eval (.JoinedStr parts mp) env) Q E s
def SupEq (parts : List Expr) (mp q1 q2 q3 q4 : Pos) : Prop :=
  ∀ env : Env, ∃ pl : Sem Bool, eval (.Call (.Attribute (.Call (.Name "super" q1) [] [] q2) "__init__" q3) [.JoinedStr parts mp] [] q4) env = (do
    let ov ← attributeBase (.Call (.Name "super" q1) [] [] q2) "__init__" env (eval (.Call (.Name "super" q1) [] [] q2) env)
    standAt q3.atName
    let __x ← holding [ov] (getMethod ov "__init__" pl)
    match __x with
    | (f, first) => callWith q4 f first (backTo q4 (starEach [.JoinedStr parts mp] env)) [])
/-- what the written part says of the class at C and of its maker at fI -/
structure ErrTxt (P : Program) (K : Frag) (mg : Str → Option Value) (nm fld : Str) (ex : List (Str × NameKind)) (parts : List Expr) (mp : Pos) (C fI : Addr) : Prop where
  gC : mg nm = some (.ref C)
  noSuper : mg "super" = none
  noTop : (List.lookup (PySem.Str.ofString "super") P.main.scope.names).isSome = false
  cls : ∃ nm q N bs bm sn sub ab col dd k0 k1 k2 k3 k5, K.lookup C = some (excClassObj nm q C N bs bm true sn sub ab col dd k0 k1 k2 k3 k5 "ValueError.__new__") ∧ refsVE bm = true
  ini : excInitIn K C veTail "ValueError.__new__" = true
  sup : ks_superIn K C C "__init__" = some (some (.builtin "ValueError.__init__"))
  subV : subIn K (.ref C) (.type "ValueError") = some true
  mroS : mroIn K C (.ref C) = some true
  third : nsIn K cStatics "thirdparty.any" = some none
  sa : findIn K (.ref C) "__setattr__" = some (some (.builtin "object.__setattr__"))
  ga : findIn K (.ref C) "__getattribute__" = some (some (.builtin "BaseException.__getattribute__"))
  gg : findIn K (.ref C) "__getattr__" = some none
  noN : findIn K (.ref C) fld = some none
  iC : findIn K (.ref C) "__init__" = some (some (.ref fI))
  tC : typeIn K (.ref fI) = some (.type "function")
  kC : keepIn K (.ref C) = true
  exC : subIn K (.ref C) (.type "BaseException") = some true
  tyC : typeIn K (.ref C) = some (.type "type")
  hdC : hasDictIn K C = true
  te : exmOne K (.ref C) (.ref C) = some true
  fn : ∃ (oc : Value) (od : Option Addr) (doc pm : Value) (an : Option Addr) (ct : Value) (osl : Array (Option Value)) (qual : Str) (cda cc : Addr)
      (ccl : Value) (cdd : Option Addr) (ccs : Array (Option Value)) (vs : Array Value) (tq tf : Tok) (file : Str) (cl : Value) (cld : Option Addr) (csl : Array (Option Value))
      (p1 p2 q1 q2 q3 q4 q5 q6 q7 q8 q9 : Pos), SupEq parts mp q1 q2 q3 q4 ∧
    K.lookup fI = some ⟨oc, od, .func (ksFn "__init__" qual (eA fld p1 p2) (eB fld parts mp q1 q2 q3 q4 q5 q6 q7 q8 q9) (eS fld ex) .none .none doc pm an (.ref cda) ct cc), osl⟩ ∧
    K.lookup cda = some ⟨ccl, cdd, .fields vs, ccs⟩ ∧ vs[1]? = some (.str qual tq) ∧ vs[2]? = some (.str file tf) ∧ (P.main.file == file) = true ∧
    K.lookup cc = some ⟨cl, cld, .cell (some (.ref C)), csl⟩
/-- the heap without the object at x -/
def without (h : Heap) (x : Addr) : Heap := { h with objs := h.objs.setIfInBounds x { cls := .none, data := .freed } }
theorem without_size (h : Heap) (x : Addr) : (without h x).objs.size = h.objs.size := by simp [without]
theorem without_at (h : Heap) (x : Addr) : (without h x).get? x = none := by
  unfold without Heap.get?
  by_cases e : x < h.objs.size
  · simp [Array.getElem?_setIfInBounds, e]
  · simp [Array.getElem?_setIfInBounds, e]
theorem without_ne (h : Heap) (x b : Addr) (hb : b ≠ x) : (without h x).get? b = h.get? b := by
  unfold without Heap.get?
  simp [Array.getElem?_setIfInBounds, Ne.symm hb]
/-- the heap below L without the object at x -/
def cutH (h : Heap) (L x : Addr) : Heap := { h with objs := (h.objs.extract 0 L).setIfInBounds x { cls := .none, data := .freed } }
theorem cut_size (h : Heap) (L x : Addr) : (cutH h L x).objs.size ≤ L := by simp [cutH]; omega
theorem cut_at (h : Heap) (L x : Addr) : (cutH h L x).get? x = none := by
  unfold cutH Heap.get?
  by_cases e : x < (h.objs.extract 0 L).size
  · rw [Array.getElem?_setIfInBounds_self_of_lt e]
  · have z : ((h.objs.extract 0 L).setIfInBounds x { cls := .none, data := .freed })[x]? = none := by
      rw [Array.getElem?_eq_none_iff]; simp at e ⊢; omega
    rw [z]
theorem cut_big (h : Heap) (L x b : Addr) (hb : L ≤ b) : (cutH h L x).get? b = none := Heap.get?_none_of_le (Nat.le_trans (cut_size h L x) hb)
theorem cut_lt (h : Heap) (L x b : Nat) (hb : b < L) (hx : b ≠ x) : (cutH h L x).get? b = h.get? b := by
  unfold cutH Heap.get?
  show (match ((h.objs.extract 0 L).setIfInBounds x { cls := .none, data := .freed })[b]? with | some ⟨_, _, .freed, _⟩ => none | o => o) = _
  rw [Array.getElem?_setIfInBounds_ne (Ne.symm hx)]
  have z : (h.objs.extract 0 L)[b]? = h.objs[b]? := by
    rw [Array.getElem?_extract]
    by_cases q : b < h.objs.size
    · rw [if_pos (by omega)]; simp
    · rw [if_neg (by omega)]
      exact (Array.getElem?_eq_none_iff.mpr (by omega)).symm
  rw [z]
  rfl
/-- what the maker leaves of a fresh exception at x; fs: the callers' frames -/
structure InitEnd (fs : List Addr) (fld : Str) (h h' : Heap) (x C dx : Addr) (v : Value) : Prop where
  keep : ∀ b o, b ≠ x → b ∉ fs → h.get? b = some o → h'.get? b = some o
  slot : ∀ b o, b ≠ x → h.get? b = some o → ∃ sl, h'.get? b = some { o with slots := sl }
  obj : ∃ t1 : Addr, h'.get? x = some { cls := .ref C, dict := some dx, data := .fields #[.ref t1, .none, .none, .none, .bool false, .none] }
  dbig : h.objs.size ≤ dx
  dne : dx ≠ x
  ns : h'.Ns1 dx (fun y => if y = fld then some v else none)
/-- a made error -/
structure OwnMade (fs : List Addr) (fld : Str) (h h' : Heap) (e C d : Addr) (v : Value) : Prop where
  keep : KeepF fs h h'
  new : h.objs.size ≤ e
  obj : ∃ oe vs, h'.get? e = some oe ∧ oe.cls = .ref C ∧ oe.dict = some d ∧ oe.data = .fields vs ∧ vs[1]? = some .none
  dbig : h.objs.size ≤ d
  dne : d ≠ e
  ns : h'.Ns1 d (fun y => if y = fld then some v else none)
theorem ld1 {M : Model} {A : Around} {E : Value → Shared → Prop} {s : Shared} {env : Env} {m : Str → Option Value} {x : Str} {pos : Pos} {v : Value} {Q : Value → Shared → Prop}
    (hn : s.heap.Ns env.locals m) (hv : m x = some v) (h : Q v s) (hk : env.scope.kind = .function) (hl : env.kindOf x = some .local) (hd : (x == ("__debug__" : Str)) = false) :
    wpAny M A (eval (.Name x pos) env) Q E s := wpAny_Name (wpAny_loadName_local hk hl hn hv h) hd
/-- the facts of the field's name -/
structure FldOk (fld : Str) (ex : List (Str × NameKind)) (parts : List Expr) (mp : Pos) : Prop where
  lkF : List.lookup fld (eS fld ex).names = some .local
  lkS : List.lookup ("self" : Str) (eS fld ex).names = some .local
  lkC : List.lookup ("__class__" : Str) (eS fld ex).names = some .free
  lkU : List.lookup ("super" : Str) (eS fld ex).names = some .globalImplicit
  dbg : (fld == ("__debug__" : Str)) = false
  noc : ∀ y ∈ (eS fld ex).names, y.2 ≠ .cell
  bf : ∀ x v : Value, List.lookup fld [(("self" : Str), x), (fld, v)].reverse = some v
  bs : ∀ x v : Value, List.lookup ("self" : Str) [(("self" : Str), x), (fld, v)].reverse = some x
  star : ∀ env : Env, starEach [.JoinedStr parts mp] env = (false, eval (.JoinedStr parts mp) env) :: starEach [] env
  bnd : ∀ (s : Shared) (x v : Value) (q : Str) (p1 p2 : Pos) (b : List Stmt) (doc pm cd ct : Value) (an : Option Addr) (cc : Addr),
    BindsTo s (ksFn "__init__" q (eA fld p1 p2) b (eS fld ex) .none .none doc pm an cd ct cc) ⟨[x, v], []⟩ [(("self" : Str), x), (fld, v)]
theorem env0_none {P : Program} {w : World} {K : Frag} {mg : Str → Option Value} {base : Heap} {A : Around} {outer : List Env} {s : Shared} {H : L2.Hp} (e : L2.Env0 P w K mg base A outer s H) :
    L2.Env0 P w K mg base A outer s (fun _ => none) :=
  ⟨e.frames, e.mod, fun b o q => ⟨(e.bs b o q).1, rfl⟩, e.bsz, e.funs, fun _ _ => rfl, fun a o q => (by cases q), e.bare⟩
section
variable {prog : Program} {w : World} {A : Around} {R : Result → Shared → Prop} {s : Shared} {K : Frag} {mg : Str → Option Value} {base : Heap} {lv : Nat} {outer : List Env} {nm fld : Str} {ex : List (Str × NameKind)} {parts : List Expr} {mp : Pos} {C fI : Addr}
theorem err_init (T : ErrTxt prog K mg nm fld ex parts mp C fI) (G : FldOk fld ex parts mp) {x t0 : Addr} {v : Value} (M : MsgOk prog w K mg base lv ex parts mp fld v)
    (e0 : L2.Env0 prog w K mg base A outer s (fun _ => none)) (hx : s.heap.get? x = some (excO C t0)) (hnx : K.lookup x = none) (hbx : base.get? x = none) (hr : L2.Room (lv + 1) A)
    (hq : ∀ s' dx, s'.os = s.os → AllBare s'.gens → InitEnd (L2.frs outer) fld s.heap s'.heap x C dx v → R (.ok (.ret .none)) s') :
    codeAny (model prog w) A (.call (.ref fI) ⟨[.ref x, v], []⟩) R s := by
  have X : K.In s.heap := e0.mod.kin.keeps fun b o e => (e0.bs b o e).1
  have hlim : s.heap.NoLimit := e0.mod.nolimit.keeps fun b o e => (e0.bs b o e).1
  have hg : s.heap.Ns mainGlobals mg := e0.mod.glob.keeps fun b o e => (e0.bs b o e).1
  obtain ⟨mb, hb0, hmb0⟩ := e0.mod.blt
  have hb : s.heap.Ns builtinsNs mb := hb0.keeps fun b o e => (e0.bs b o e).1
  have hmb : mb "super" = some (.type "super") := hmb0 _ (by decide)
  obtain ⟨oc, od, doc, pm, an, ct, osl, qual, cda, cc, ccl, cdd, ccs, vs, tq, tf, file, cl, cld, csl, p1, p2, q1, q2, q3, q4, q5, q6, q7, q8, q9, hev, ho, hcd, hvq, hvf, hfile, hcell⟩ := T.fn
  obtain ⟨nm, q, N, bs, bm, sn, sub, ab, col, dd, k0, k1, k2, k3, k5, hC, hbm⟩ := T.cls
  have hcl : clsIn K C = some { name := nm, bases := bs, mro := .ref C :: bm, ns := N, qualname := q, hasDict := true, slotNames := sn, subclasses := sub, abstract := ab, collection := col, hasDel := false } := by unfold clsIn; rw [hC] <;> rfl
  refine ks_codeAny_call_defAt (binds := [("self", .ref x), (fld, v)]) hr.depth (X _ _ ho) rfl hlim ⟨cda, _, vs, tq, rfl, X _ _ hcd, rfl, hvq⟩ rfl (G.bnd _ _ _ _ _ _ _ _ _ _ _ _ _) G.noc ?_ ?_ rfl rfl rfl
  · intro y hy
    simp only [List.mem_cons, List.not_mem_nil, or_false] at hy
    rcases hy with rfl | rfl
    · exact G.lkS
    · exact G.lkF
  intro h₁ hn k
  have X₁ : K.In h₁ := X.keeps k
  have hx₁ := k _ _ hx
  have hxL : x < s.heap.objs.size := Heap.lt_size hx
  have X₀ : K.In (without s.heap x) := fun a o e => by
    have ne : a ≠ x := fun z => by rw [z, hnx] at e; cases e
    rw [without_ne _ _ _ ne]; exact X a o e
  obtain ⟨env, henv⟩ : ∃ env, env = callEnv (ksFn "__init__" qual (eA fld p1 p2) (eB fld parts mp q1 q2 q3 q4 q5 q6 q7 q8 q9) (eS fld ex) .none .none doc pm an (.ref cda) ct cc) s.heap.objs.size fI := ⟨_, rfl⟩
  obtain ⟨pl, hpl⟩ := hev (callEnv (ksFn "__init__" qual (eA fld p1 p2) (eB fld parts mp q1 q2 q3 q4 q5 q6 q7 q8 q9) (eS fld ex) .none .none doc pm an (.ref cda) ct cc) s.heap.objs.size fI)
  refine ks_wpAt_execs_cons (ks_wpAt_Expr_any (ks_wpAt_MethodCall (he := hpl) (ks_wpAt_super_base G.lkU G.lkC (by decide) (f := fI) rfl (k _ _ (X _ _ ho)) rfl rfl rfl (k _ _ (X _ _ hcd)) rfl hvf hfile T.noTop ?_)))
  refine ks_loadName_global rfl G.lkU (loadGlobal_builtin (hg.keeps k) T.noSuper (hb.keeps k) hmb ⟨rfl, ?_⟩)
  refine wpAny_loadName_free rfl G.lkC (c := cc) (v := .ref C) rfl ⟨_, k _ _ (X _ _ hcell), rfl⟩ ?_
  refine wpAny_loadName_local rfl G.lkS hn (G.bs _ _) ?_
  refine ks_wpAny_isType_cls (k _ _ (X _ _ hC)) rfl ⟨rfl, ?_⟩
  refine ks_wpAny_call_super (k _ _ (X _ _ hC)) rfl hx₁ rfl (fun c e => by cases e) (looks_mroIn X₁ T.mroS) fun h₂ hso k₂ => ?_
  have zL : s.heap.objs.size < h₁.objs.size := hn.lt
  have F2 : Fr (without s.heap x) s.heap.objs.size h₂ (fun y => List.lookup y [(("self" : Str), Value.ref x), (fld, v)].reverse) :=
    ⟨hn.keeps k₂, fun b o e => by
      by_cases hb : b = x
      · rw [hb, without_at] at e; cases e
      · rw [without_ne _ _ _ hb] at e; exact k₂ _ _ (k _ _ e), by rw [without_size]; exact Nat.le_refl _⟩
  have N2 : News (without s.heap x) s.heap.objs.size h₂ [(h₁.objs.size, ks_superObj C x C), (x, excObj C t0 none .none)] := by
    intro p hp
    simp only [List.mem_cons, List.not_mem_nil, or_false] at hp
    rcases hp with rfl | rfl
    · refine ⟨hso, Nat.ne_of_gt zL, ?_⟩
      rw [without_ne _ _ _ (Nat.ne_of_gt (Nat.lt_trans hxL zL))]
      cases e : s.heap.get? h₁.objs.size with
      | none => rfl
      | some o => exact absurd (Heap.lt_size e) (Nat.not_lt.mpr (Nat.le_of_lt zL))
    · exact ⟨k₂ _ _ hx₁, Nat.ne_of_lt hxL, without_at _ _⟩
  refine kxs_method kxs_ValueError F2 X₀ N2 List.mem_cons_self (.of_exc0 N2 (List.mem_cons_of_mem _ List.mem_cons_self)) T.third T.sup T.subV (by decide) fun u h₃ F3 N3 lt3 => ?_
  refine kxs_callWith1 N3 List.mem_cons_self (spliced_more ?_ (G.star _)) (G.star _) rfl
  rw [← henv]
  have k3 : ∀ b o, b ≠ x → s.heap.get? b = some o → h₃.get? b = some o := fun b o hb e => F3.keep b o (by rw [without_ne _ _ _ hb]; exact e)
  have kb : ∀ b o, base.get? b = some o → h₃.get? b = some o := fun b o e => k3 b o (fun z => by rw [z, hbx] at e; cases e) (e0.bs b o e).1
  have fne : ∀ b ∈ L2.frs outer, b ≠ x := fun b hb z => by
    obtain ⟨_, o, ho', hf⟩ := e0.funs.mem (b := b) hb
    rw [z, hx] at ho'; cases ho'
    exact hf _ rfl
  have funs3 : h₃.FunFrames base outer := e0.funs.of_keeps fun b o e hf => by
    refine ⟨o, k3 b o (fun z => ?_) e, rfl⟩
    rw [z, hx] at e; cases e
    exact hf _ rfl
  have hL3 : base.get? s.heap.objs.size = none := Heap.get?_none_of_le e0.bsz
  have efr : env.frame = some s.heap.objs.size := by rw [henv] <;> rfl
  have elo : env.locals = s.heap.objs.size := by rw [henv] <;> rfl
  have ens : h₃.Ns env.locals (fun y => List.lookup y [(("self" : Str), Value.ref x), (fld, v)].reverse) := by rw [elo]; exact F3.ns
  have e3 : ∀ tk, L2.Env0 prog w K mg base (A.deeper env) (env :: outer) { s with heap := h₃, toks := tk } (fun _ => none) := fun tk =>
    ⟨Around.frames_deeper e0.frames, e0.mod, fun b o e => ⟨kb b o e, rfl⟩, Nat.le_trans e0.bsz (Nat.le_of_lt F3.ns.lt), .cons (by rw [henv]; intro z; cases z) efr (by rw [← elo]; exact ens) hL3 funs3, fun _ _ => rfl, fun a o q => (by cases q), e0.bare⟩
  refine M (A.deeper env) (env :: outer) _ _ env _ _ (by rw [henv] <;> rfl) (by rw [henv] <;> rfl) (by rw [henv] <;> rfl) (hr.deeper env) (e3 _) ens (G.bf _ _) fun um s4 os4 bare4 K4 => spliced_none ?_
  have efs : L2.frs (env :: outer) = s.heap.objs.size :: L2.frs outer := by unfold L2.frs; rw [List.filterMap_cons, efr]
  rw [efs] at K4
  obtain ⟨h4, g4, d4, t4, o4⟩ := s4
  obtain rfl : o4 = s.os := os4
  -- what stands beside the frames
  have nf : ∀ p ∈ (u, kxs_mw "ValueError.__init__" x) :: [(h₁.objs.size, ks_superObj C x C), (x, excObj C t0 none .none)], p.1 ∉ s.heap.objs.size :: L2.frs outer := by
    intro p hp z
    rcases List.mem_cons.mp z with z | z
    · exact (N3 p hp).2.1 z
    · obtain ⟨_, o, ho', hf⟩ := e0.funs.mem (b := p.1) z
      have lt := Heap.lt_size ho'
      simp only [List.mem_cons, List.not_mem_nil, or_false] at hp
      rcases hp with rfl | rfl | rfl
      · exact absurd (Nat.lt_trans (Nat.lt_trans lt zL) (lt3 _ List.mem_cons_self)) (Nat.lt_irrefl _)
      · exact absurd (Nat.lt_trans lt zL) (Nat.lt_irrefl _)
      · exact fne _ z rfl
  have F4 : Fr (cutH h4 s.heap.objs.size x) s.heap.objs.size h4 (fun y => List.lookup y [(("self" : Str), Value.ref x), (fld, v)].reverse) := by
    refine ⟨?_, fun b o e => ?_, cut_size _ _ _⟩
    · obtain ⟨o', es', ep', ho', r'⟩ := F3.ns
      obtain ⟨sl, z⟩ := K4.slot _ _ ho'
      exact ⟨_, es', ep', z, r'⟩
    · by_cases hb : b = x
      · rw [hb, cut_at] at e; cases e
      · by_cases hl : b < s.heap.objs.size
        · rw [cut_lt _ _ _ _ hl hb] at e; exact e
        · rw [cut_big _ _ _ _ (Nat.le_of_not_lt hl)] at e; cases e
  have N4 : News (cutH h4 s.heap.objs.size x) s.heap.objs.size h4 ((u, kxs_mw "ValueError.__init__" x) :: [(h₁.objs.size, ks_superObj C x C), (x, excObj C t0 none .none)]) := by
    intro p hp
    refine ⟨K4.keep _ _ (nf p hp) (N3 p hp).1, (N3 p hp).2.1, ?_⟩
    simp only [List.mem_cons, List.not_mem_nil, or_false] at hp
    rcases hp with rfl | rfl | rfl
    · exact cut_big _ _ _ _ (Nat.le_of_lt (Nat.lt_trans zL (lt3 _ List.mem_cons_self)))
    · exact cut_big _ _ _ _ (Nat.le_of_lt zL)
    · exact cut_at _ _ _
  have old4 : ∀ b o, b ≠ x → b ∉ L2.frs outer → s.heap.get? b = some o → h4.get? b = some o := fun b o hb hf e =>
    K4.keep b o (fun z => (List.mem_cons.mp z).elim (fun z => absurd (Heap.lt_size e) (by rw [z]; exact Nat.lt_irrefl _)) hf) (k3 b o hb e)
  have base4 : ∀ b o, base.get? b = some o → b ≠ x ∧ b < s.heap.objs.size ∧ h4.get? b = some o := fun b o e => by
    have hb : b ≠ x := fun z => by rw [z, hbx] at e; cases e
    have e' := (e0.bs b o e).1
    exact ⟨hb, Heap.lt_size e', old4 b o hb (fun z => by have := (e0.funs.mem (b := b) z).1; rw [e] at this; cases this) e'⟩
  have X4 : K.In (cutH h4 s.heap.objs.size x) := fun a o e => by
    obtain ⟨p, q, r⟩ := base4 a o (e0.mod.kin a o e)
    rw [cut_lt _ _ _ _ q p]; exact r
  refine ⟨kxs_at N4 List.mem_cons_self, ?_⟩
  refine kxs_call (bmB := veTail) (newId := "ValueError.__new__") (dv := none) (c2 := .none) (t := t0) F4 X4 N4 F.excBase_ValueError T.ini List.mem_cons_self (.tail ?_ (.tail ?_ (.head ?_))) ?_ fun t' h₅ F5 N5 lt5 => ?_
  · exact Nat.ne_of_gt (lt3 _ (List.mem_cons_of_mem _ List.mem_cons_self))
  · exact Nat.ne_of_gt (Nat.lt_trans hxL zL)
  · intro p hp; cases hp
  · rw [sizeLine_eq]; exact (by decide : 1 ≤ 16777216)
  rw [henv] at *
  refine wpAt_of_wpAny ?_
  have hx5 : h₅.get? x = some (excO C t') := (N5 (x, excObj C t' none .none) (by simp)).1
  have c5 : ∀ b o, b ≠ x → b < s.heap.objs.size → h4.get? b = some o → h₅.get? b = some o := fun b o hb hl e => F5.keep b o (by rw [cut_lt _ _ _ _ hl hb]; exact e)
  have k5 : ∀ b o, b ≠ x → b ∉ L2.frs outer → s.heap.get? b = some o → h₅.get? b = some o := fun b o hb hf e => c5 b o hb (Heap.lt_size e) (old4 b o hb hf e)
  have s5 : ∀ b o, b ≠ x → s.heap.get? b = some o → ∃ sl, h₅.get? b = some { o with slots := sl } := fun b o hb e => by
    obtain ⟨sl, z⟩ := K4.slot b o (k3 b o hb e)
    exact ⟨sl, c5 b _ hb (Heap.lt_size e) z⟩
  have X5 : K.In h₅ := fun a o e => by
    obtain ⟨p, q, r⟩ := base4 a o (e0.mod.kin a o e)
    exact c5 a o p q r
  refine wpAny_execs_cons (plainObj_wpAny_Assign_Attribute ?_)
  refine ld1 (v := v) F5.ns (G.bf _ _) (ld1 (v := .ref x) F5.ns (G.bs _ _) ?_ rfl G.lkS (by decide)) rfl G.lkF G.dbg
  refine set_plain X5 (ox := excO C t') (od := none) ⟨hx5, rfl, rfl, trivial⟩ T.sa ?_
  refine exc_osa X5 hx5 hcl (show refsVE (.ref C :: bm) = true from hbm) rfl T.noN (fun h₆ tk₆ dx k₆ dn dne hx₆ hn₆ => ?_)
  exact wpAny_execs_nil (hq _ dx rfl bare4 ⟨fun b o hb hf e => k₆ b o hb (k5 b o hb hf e), fun b o hb e => let ⟨sl, z⟩ := s5 b o hb e; ⟨sl, k₆ b _ hb z⟩, ⟨t', hx₆⟩, Nat.le_of_lt (Nat.lt_of_lt_of_le F5.ns.lt dn), dne, hn₆⟩)
theorem err_made (T : ErrTxt prog K mg nm fld ex parts mp C fI) (G : FldOk fld ex parts mp) {v : Value} (M : MsgOk prog w K mg base lv ex parts mp fld v)
    (e0 : L2.Env0 prog w K mg base A outer s (fun _ => none)) (hr : L2.Room (lv + 2) A)
    (hq : ∀ s' e d, s'.os = s.os → AllBare s'.gens → OwnMade (L2.frs outer) fld s.heap s'.heap e C d v → R (.ok (.ret (.ref e))) s') :
    codeAny (model prog w) A (.call (.ref C) ⟨[v], []⟩) R s := by
  obtain ⟨nm, q, N, bs, bm, sn, sub, ab, col, dd, k0, k1, k2, k3, k5, hC, hbm⟩ := T.cls
  obtain ⟨hp, g, dr, tk, os⟩ := s
  have X : K.In hp := e0.mod.kin.keeps fun b o e => (e0.bs b o e).1
  have k : ∀ b o, hp.get? b = some o → ((hp.push (kdv_tup [v])).push (excO C hp.objs.size)).get? b = some o := fun b o e => Heap.get?_push_of_some _ (Heap.get?_push_of_some _ e)
  have hget : ((hp.push (kdv_tup [v])).push (excO C hp.objs.size)).get? (hp.objs.size + 1) = some (excO C hp.objs.size) := by heap_get
  have hnx : K.lookup (hp.objs.size + 1) = none := by
    cases e : K.lookup (hp.objs.size + 1) with
    | none => rfl
    | some o =>
      have z : hp.get? (hp.objs.size + 1) = some o := X _ _ e
      exact absurd (Nat.lt_of_succ_lt (Heap.lt_size z)) (Nat.lt_irrefl _)
  have hbx : base.get? (hp.objs.size + 1) = none := Heap.get?_none_of_le (Nat.le_trans e0.bsz (Nat.le_succ _))
  have sz : ((hp.push (kdv_tup [v])).push (excO C hp.objs.size)).objs.size = hp.objs.size + 1 + 1 := by
    first
      | rfl
      | simp [Heap.size_push]
  refine call_own F.excBase_ValueError (fun X => refsVE_contains X bm hbm) (X _ _ hC) (looks_findIn X T.iC) (fun self => bind_fn X self T.tC) (by rw [sizeLine_eq]; exact (by decide : 1 ≤ 16777216)) ?_
  have e1 := e0.make C [v] []
  have e2 : L2.Env0 prog w K mg base (A.under (.builtin "type.__call__" ⟨.ref C :: [v], []⟩)) outer ⟨(hp.push (kdv_tup [v])).push (excO C hp.objs.size), g, dr, tk, os⟩ (fun _ => none) :=
    ⟨e1.frames, e1.mod, fun b o e => ⟨k b o (e1.bs b o e).1, rfl⟩, by show base.objs.size ≤ ((hp.push (kdv_tup [v])).push (excO C hp.objs.size)).objs.size; rw [sz]; exact Nat.le_trans e1.bsz (Nat.le_trans (Nat.le_succ _) (Nat.le_succ _)),
      e1.funs.of_keeps fun b o e _ => ⟨o, k b o e, rfl⟩, fun _ _ => rfl, fun a o q => (by cases q), e1.bare⟩
  refine err_init (s := ⟨(hp.push (kdv_tup [v])).push (excO C hp.objs.size), g, dr, tk, os⟩) T G M e2 hget hnx hbx (hr.make C [v] []) fun s' dx os' bare' ⟨k', s', ⟨t1, hx⟩, dn, dne, hns⟩ => ?_
  have z : hp.objs.size + 1 + 1 ≤ dx := by rw [← sz]; exact dn
  refine ⟨rfl, hq _ (hp.objs.size + 1) dx os' bare' ⟨⟨fun b o hf e => k' b o (Nat.ne_of_lt (Nat.lt_succ_of_lt (Heap.lt_size e))) hf (k b o e), fun b o e => s' b o (Nat.ne_of_lt (Nat.lt_succ_of_lt (Heap.lt_size e))) (k b o e)⟩, Nat.le_succ _, ⟨_, _, hx, rfl, rfl, rfl, rfl⟩, Nat.le_trans (Nat.le_trans (Nat.le_succ _) (Nat.le_succ _)) z, dne, hns⟩⟩
end
end Errs
end PySem

set_option Elab.async false
set_option linter.all false
set_option maxRecDepth 100000
set_option maxHeartbeats 4000000
namespace L2
open PySem PySem.Spec PyProof.Rows
theorem relO_fld {v : V} {v' : Value} (fld : Str) (r : RelV v v') (f : Str) : RelO (List.lookup f [(fld, v)]) (if f = fld then some v' else none) := by
  by_cases hw : f = fld
  · subst hw
    rw [if_pos rfl]
    have q : List.lookup f [(f, v)] = some v := by simp [List.lookup]
    rw [q]
    exact r
  · rw [if_neg hw]
    have qw : (f == fld) = false := by simpa using hw
    have q2 : List.lookup f [(fld, v)] = none := by simp [List.lookup, qw]
    rw [q2]
    trivial
/-- the message of this value is written, whatever stands for it -/
def MsgV (X : Cx) (lv : Nat) (ex : List (Str × NameKind)) (parts : List Expr) (mp : Pos) (fld : Str) (v : V) : Prop := ∀ u, RelV v u → PySem.Errs.MsgOk X.prog X.w X.K X.mg X.base lv ex parts mp fld u
section
variable {X : Cx} {nm fld : Str} {ex : List (Str × NameKind)} {parts : List Expr} {mp : Pos} {C fI : Addr} {lv : Nat}
/-- NAME(e) -/
def tMkErr (Mv : V → Prop) (fld : Str) (C : Addr) (ta : TA) : St → Hp → XK → Prop := fun σ H Q => ta σ H fun vs H1 => ∃ v, vs = [v] ∧ Mv v ∧ ∀ d, H1 d = none → Q (.ref C) (some d) (upd H1 d (.xd [(fld, v)]))
theorem pmk_err {a : Expr} {ta : TA} {p pos : Pos} {k : Nat} (T : PySem.Errs.ErrTxt X.prog X.K X.mg nm fld ex parts mp C fI) (G : PySem.Errs.FldOk fld ex parts mp) (hr : Room k X.A) (ha : PA X [a] ta) (hlv : lv + 2 ≤ k := by decide) (hg : Gl X nm := by rfl)
    (hdb : (nm == PySem.Str.ofString "__debug__") = false := by decide)
    (he : starEach (a :: []) X.env = (false, eval a X.env) :: starEach [] X.env := by rfl) (hpl : (backTo pos (starEach [] X.env)).any (·.1) = false := by rfl) :
    PMk X (.Call (.Name nm p) [a] [] pos) (tMkErr (MsgV X lv ex parts mp fld) fld C ta) := by
  intro pins s σ H Q I h
  refine wpAny_Call_Name_kw (ld_glob I hg T.gC ?_ hdb)
  refine PySem.W.callWith_K (h₀ := X.base) I.ok.mod.kin T.kC (thn (ha.run pos pins s σ H _ I h) fun us s1 hh => ?_) he hpl
  obtain ⟨vs, H1, I1, r1, v, ev, mv, q1⟩ := hh
  subst ev
  refine ⟨I1.kIn, ?_⟩
  cases r1 with
  | cons rv rn =>
    rename_i v' us'
    cases rn
    show wpAny _ _ (call (.ref C) [v']) _ _ _
    have e0 := PySem.Errs.env0_none I1.env0
    refine wpAny_call (PySem.Errs.err_made T G (mv v' rv) e0 (hr.mono hlv) fun s' e d os' bare' M => ?_)
    obtain ⟨hp, g, dr, tk, os⟩ := s1
    obtain ⟨h', g', dr', tk', os2⟩ := s'
    obtain rfl : os2 = os := os'
    show MkP X pins σ Q (.ref e) ⟨h', g', dr', tk', os2⟩
    obtain ⟨oe, fv, hoe, hc, hd, hdat, h1⟩ := M.obj
    have hns := M.ns
    have hnew : hp.objs.size ≤ e := M.new
    have hdbig : hp.objs.size ≤ d := M.dbig
    have fe : H1 e = none := I1.hok.fresh hnew
    have fd : H1 d = none := I1.hok.fresh hdbig
    obtain ⟨G', g1, g2⟩ := restrict h' fun b => decide (b ≠ e)
    have gk : ∀ b, b ≠ e → G'.get? b = h'.get? b := fun b hb => g1 b (decide_eq_true hb)
    have ge : G'.get? e = none := g2 e (by simp)
    have ne : ∀ b o, hp.get? b = some o → b ≠ e := fun b o q => Nat.ne_of_lt (Nat.lt_of_lt_of_le (Heap.lt_size q) hnew)
    have nd : ∀ b o, hp.get? b = some o → b ≠ d := fun b o q => Nat.ne_of_lt (Nat.lt_of_lt_of_le (Heap.lt_size q) hdbig)
    have k1 : ∀ b o, b ∉ frs X.stack → hp.get? b = some o → G'.get? b = some o := fun b o hf q => (gk b (ne b o q)).trans (M.keep.keep b o hf q)
    have k2 : ∀ b o, hp.get? b = some o → ∃ sl, G'.get? b = some { o with slots := sl } := fun b o q => let ⟨sl, z⟩ := M.keep.slot b o q; ⟨sl, (gk b (ne b o q)).trans z⟩
    have ob : ObjOk X.prog X.w (upd H1 d (.xd [(fld, v)])) G' d (.xd [(fld, v)]) :=
      ⟨_, hns.at (fun o q => (gk d M.dne).trans q), fun f => relO_fld fld rv f⟩
    have tne : ∀ b o, H1 b = some o → b ≠ d := fun b o q z => by rw [z, fd] at q; cases q
    have un : Un (frs X.stack) [] H1 (upd H1 d (.xd [(fld, v)])) hp G' :=
      ⟨fun b o q _ hf _ => k1 b o hf q, fun b o q _ _ _ => k2 b o q, fun b o q n _ => by rw [upd_ne (nd b o q)]; exact n, fun b o q _ => let ⟨sl, z⟩ := k2 b o q; ⟨_, z⟩,
        fun b xs q => by rw [upd_ne (tne b _ q)]; exact q, fun b u xs q => by rw [upd_ne (tne b _ q)]; exact q, fun b ps q => ⟨#[], by rw [upd_ne (tne b _ q), q]; simp⟩⟩
    have free := I1.stkFree
    have hok : HOk X.prog X.w (upd H1 d (.xd [(fld, v)])) G' := fun b u q => by
      by_cases hb : b = d
      · subst hb; rw [upd_same] at q; cases q; exact ob
      · rw [upd_ne hb] at q
        refine (I1.hok b u q).stay (fun c o hc z => k1 c o (fun hf => ?_) z) (fun c z => by rw [upd_ne (tne c _ z)]; exact z) fun c xs z => by rw [upd_ne (tne c _ z)]; exact z
        have fc := free c hf
        rcases hc with rfl | hc
        · rw [q] at fc; cases fc
        · rw [hc] at fc; cases fc
    have J : Inv X pins σ (upd H1 d (.xd [(fld, v)])) ⟨G', g', dr', tk', os2⟩ := I1.call (g' := g') (t' := tk') (d' := dr') (ch := []) un hok bare' (fun _ z => nomatch z)
    refine ⟨e, oe, fv, ⟨G', g', dr', tk', os2⟩, _, .ref C, some d, rfl, J, fun b o q => ?_, ge, hoe, ⟨hc, hd⟩, hdat, h1, ?_, rfl, bare', raises_own T.exC T.tyC, q1 d fd⟩
    · by_cases hb : b = e
      · have q' : G'.get? b = some o := q
        rw [hb, ge] at q'; cases q'
      · exact (gk b hb).symm.trans q
    · rw [upd_ne (Ne.symm M.dne)]
      exact fe
/-- raise NAME(e) -/
def tRaiseErr (Mv : V → Prop) (fld : Str) (C : Addr) (W : WX) (ta : TA) : TS := fun _ σ H => tMkErr Mv fld C ta σ H fun cls d H' => W cls d σ H'
theorem ps_raiseErr {a : Expr} {ta : TA} {W : WX} {p pos pos2 : Pos} {k : Nat} (hc : X.calm = true) (T : PySem.Errs.ErrTxt X.prog X.K X.mg nm fld ex parts mp C fI) (G : PySem.Errs.FldOk fld ex parts mp) (hr : Room k X.A) (tk : Takes X W) (ha : PA X [a] ta) (hlv : lv + 2 ≤ k := by decide) (hg : Gl X nm := by rfl)
    (hdb : (nm == PySem.Str.ofString "__debug__") = false := by decide)
    (he : starEach (a :: []) X.env = (false, eval a X.env) :: starEach [] X.env := by rfl) (hpl : (backTo pos (starEach [] X.env)).any (·.1) = false := by rfl) :
    PS X (.Raise (some (.Call (.Name nm p) [a] [] pos)) none pos2) (tRaiseErr (MsgV X lv ex parts mp fld) fld C W ta) := ps_raise hc tk (pmk_err T G hr ha hlv hg hdb he hpl)
/-! ### the messages -/
/-- decimal(e) in a message -/
theorem dec_part {f : Addr} {fd : FuncData} {sp : Sp} {v : V} {u : Value} {p1 p2 p3 : Pos} (F : FnOk X.prog X.w X.K X.mg X.base CX0 lv f fd ["n"] sp) (gf : X.mg "decimal" = some (.ref f)) (kp : PySem.W.keepIn X.K (.ref f) = true) (hb : Binds X.K fd ["n"] [])
    (hsp : ∀ (Q : VK) (E : XK), (∀ z H', z.length ≤ 1000000 → Q (.str z) H') → sp [v] (fun _ => none) Q E) (r : RelV v u)
    {A : Around} {outer : List Env} {E : Value → Shared → Prop} {s : Shared} {env : Env} {m : Str → Option Value} {Q : Value → Shared → Prop}
    (hs : env.scope = PySem.Errs.eS fld [("decimal", .globalImplicit)]) (hgl : env.globals = mainGlobals) (hr : Room lv A) (e0 : Env0 X.prog X.w X.K X.mg X.base A outer s (fun _ => none))
    (hn : s.heap.Ns env.locals m) (hm : m fld = some u) (h1 : List.lookup fld (PySem.Errs.eS fld [("decimal", .globalImplicit)]).names = some .local) (h2 : List.lookup ("decimal" : Str) (PySem.Errs.eS fld [("decimal", .globalImplicit)]).names = some .globalImplicit)
    (hd : (fld == ("__debug__" : Str)) = false) (hst : starEach [.Name fld p2] env = (false, eval (.Name fld p2) env) :: starEach [] env) (hpl : (backTo p3 (starEach [] env)).any (·.1) = false)
    (h : ∀ z tk s', z.length ≤ 1000000 → s'.os = s.os → AllBare s'.gens → PySem.Errs.KeepF (frs outer) s.heap s'.heap → Q (.str z tk) s') :
    wpAny (model X.prog X.w) A (eval (.Call (.Name "decimal" p1) [.Name fld p2] [] p3) env) Q E s := by
  have kin : X.K.In s.heap := e0.mod.kin.keeps fun b o e => (e0.bs b o e).1
  have hkd : env.scope.kind = .function := by rw [hs] <;> rfl
  refine wpAny_Call_Name_kw (Calls.Name_function_global hkd (by show env.scope.names.lookup _ = _; rw [hs]; exact h2) (Calls.loadGlobal_global (by rw [hgl]; exact e0.mod.glob.keeps fun b o e => (e0.bs b o e).1) gf ?_) (by decide))
  refine PySem.W.callWith_K (h₀ := X.base) e0.mod.kin kp (PyProof.Rows.spliced_more ?_ hst) hst hpl
  refine PySem.Errs.ld1 hn hm ?_ hkd (by show env.scope.names.lookup _ = _; rw [hs]; exact h1) hd
  refine PyProof.Rows.spliced_none ⟨kin, ?_⟩
  have b0 := hb s [u] kin rfl
  refine wpAny_call (codeAny_mono (F.run A outer s _ ⟨[u], []⟩ [u] [v] _ (fun _ _ _ => False) hr e0 b0 (.cons r .nil) (hsp (fun x H' => ∃ z, x = .str z ∧ z.length ≤ 1000000) _ fun z H' hz => ⟨z, rfl, hz⟩)) fun res s' got => ?_)
  match res, got with
  | .error e, got => exact False.elim got
  | .ok (.ret y), got =>
    obtain ⟨x, H', os', bare', un, hok, rv, z, rfl, hz⟩ := got
    obtain ⟨tk, rfl⟩ := rv
    exact h z tk s' hz os' bare' (PySem.Errs.KeepF.of_un un)
  | .ok .next, got => cases got
  | .ok .brk, got => cases got
  | .ok .cont, got => cases got
theorem msg_dec2 {f : Addr} {fd : FuncData} {sp : Sp} {v : V} {a : Str} {k1 : Nat} {p1 p2 p3 p4 p5 mp : Pos} (F : FnOk X.prog X.w X.K X.mg X.base CX0 lv f fd ["n"] sp) (gf : X.mg "decimal" = some (.ref f)) (kp : PySem.W.keepIn X.K (.ref f) = true) (hb : Binds X.K fd ["n"] [])
    (hsp : ∀ (Q : VK) (E : XK), (∀ z H', z.length ≤ 1000000 → Q (.str z) H') → sp [v] (fun _ => none) Q E)
    (h1 : List.lookup fld (PySem.Errs.eS fld [("decimal", .globalImplicit)]).names = some .local) (h2 : List.lookup ("decimal" : Str) (PySem.Errs.eS fld [("decimal", .globalImplicit)]).names = some .globalImplicit) (hd : (fld == ("__debug__" : Str)) = false)
    (hst : ∀ env : Env, starEach [.Name fld p2] env = (false, eval (.Name fld p2) env) :: starEach [] env) (hl : a.length ≤ 100) :
    MsgV X lv [("decimal", .globalImplicit)] [.Constant (.str a) k1 p4, .FormattedValue (.Call (.Name "decimal" p1) [.Name fld p2] [] p3) (-1) none p5] mp fld v := by
  intro u r A outer E s env m Q hs hgl hbl hr e0 hn hm hQ
  refine JoinedStr_many (joinParts_cons ?_)
  refine wpAny_Constant_str ?_
  have l0 : Str.empty.length = 0 := rfl
  refine ⟨by rw [sizeLine_eq, Str.length_append]; omega, ?_⟩
  refine joinParts_cons (FormattedValue_plain ?_)
  refine dec_part F gf kp hb hsp r hs hgl hr (e0 := ⟨e0.frames, e0.mod, e0.bs, e0.bsz, e0.funs, e0.frf, e0.hok, e0.bare⟩) hn hm h1 h2 hd (hst _) rfl fun z tk s' hz os' bare' K' => ?_
  refine formatField_str (fun t' tk' => ?_) (by rw [sizeLine_eq]; omega)
  refine ⟨by rw [sizeLine_eq, Str.length_append, Str.length_append]; omega, ?_⟩
  refine joinParts_nilE (joinParts_nil ?_ ?_)
  · exact hQ _ _ os' bare' K'
  · rw [sizeLine_eq, Str.length_append, Str.length_append]; omega
theorem msg_dec3 {f : Addr} {fd : FuncData} {sp : Sp} {v : V} {a b : Str} {k1 k2 : Nat} {p1 p2 p3 p4 p5 p6 mp : Pos} (F : FnOk X.prog X.w X.K X.mg X.base CX0 lv f fd ["n"] sp) (gf : X.mg "decimal" = some (.ref f)) (kp : PySem.W.keepIn X.K (.ref f) = true) (hb : Binds X.K fd ["n"] [])
    (hsp : ∀ (Q : VK) (E : XK), (∀ z H', z.length ≤ 1000000 → Q (.str z) H') → sp [v] (fun _ => none) Q E)
    (h1 : List.lookup fld (PySem.Errs.eS fld [("decimal", .globalImplicit)]).names = some .local) (h2 : List.lookup ("decimal" : Str) (PySem.Errs.eS fld [("decimal", .globalImplicit)]).names = some .globalImplicit) (hd : (fld == ("__debug__" : Str)) = false)
    (hst : ∀ env : Env, starEach [.Name fld p2] env = (false, eval (.Name fld p2) env) :: starEach [] env) (hl : a.length ≤ 100 ∧ b.length ≤ 100) :
    MsgV X lv [("decimal", .globalImplicit)] [.Constant (.str a) k1 p4, .FormattedValue (.Call (.Name "decimal" p1) [.Name fld p2] [] p3) (-1) none p5, .Constant (.str b) k2 p6] mp fld v := by
  intro u r A outer E s env m Q hs hgl hbl hr e0 hn hm hQ
  refine JoinedStr_many (joinParts_cons ?_)
  refine wpAny_Constant_str ?_
  have l0 : Str.empty.length = 0 := rfl
  refine ⟨by rw [sizeLine_eq, Str.length_append]; omega, ?_⟩
  refine joinParts_cons (FormattedValue_plain ?_)
  refine dec_part F gf kp hb hsp r hs hgl hr (e0 := ⟨e0.frames, e0.mod, e0.bs, e0.bsz, e0.funs, e0.frf, e0.hok, e0.bare⟩) hn hm h1 h2 hd (hst _) rfl fun z tk s' hz os' bare' K' => ?_
  refine formatField_str (fun t' tk' => ?_) (by rw [sizeLine_eq]; omega)
  refine ⟨by rw [sizeLine_eq, Str.length_append, Str.length_append]; omega, ?_⟩
  refine joinParts_consE (joinParts_cons ?_)
  refine wpAny_Constant_str ?_
  refine ⟨by rw [sizeLine_eq, Str.length_append, Str.length_append, Str.length_append]; omega, ?_⟩
  refine joinParts_nilE (joinParts_nil ?_ ?_)
  · exact hQ _ _ os' bare' K'
  · rw [sizeLine_eq, Str.length_append, Str.length_append, Str.length_append]; omega
theorem msg_str2 {a : Str} {k1 : Nat} {p1 p2 p3 mp : Pos} {z : Str} (h1 : List.lookup fld (PySem.Errs.eS fld []).names = some .local) (hd : (fld == ("__debug__" : Str)) = false)
    (hl : a.length ≤ 100) (ht : z.length ≤ 10000) :
    MsgV X lv [] [.Constant (.str a) k1 p1, .FormattedValue (.Name fld p2) (-1) none p3] mp fld (.str z) := by
  intro u r
  obtain ⟨tk, rfl⟩ := r
  intro A outer E s env m Q hs hgl hbl hr e0 hn hm hQ
  refine JoinedStr_many (joinParts_cons ?_)
  refine wpAny_Constant_str ?_
  have l0 : Str.empty.length = 0 := rfl
  refine ⟨by rw [sizeLine_eq, Str.length_append]; omega, ?_⟩
  refine joinParts_cons (FormattedValue_plain ?_)
  refine PySem.Errs.ld1 hn hm ?_ (by rw [hs] <;> rfl) (by show env.scope.names.lookup _ = _; rw [hs]; exact h1) hd
  refine formatField_str (fun t' tk' => ?_) (by rw [sizeLine_eq]; omega)
  refine ⟨by rw [sizeLine_eq, Str.length_append, Str.length_append]; omega, ?_⟩
  refine joinParts_nilE (joinParts_nil ?_ ?_)
  · exact hQ _ _ rfl e0.bare (.of fun _ _ e => e)
  · rw [sizeLine_eq, Str.length_append, Str.length_append]; omega
/-! ### isinstance(e, CLASS) of a caught error that keeps values -/
structure ExcD (K : PySem.W.Frag) (D : Addr) : Prop where
  cl : (PySem.W.clsIn K D).isSome = true
  ga : PySem.W.findIn K (.ref D) "__getattribute__" = some (some (.builtin "BaseException.__getattribute__"))
  gg : PySem.W.findIn K (.ref D) "__getattr__" = some none
  ex : PySem.W.subIn K (.ref D) (.type "BaseException") = some true
  cc : PySem.W.findIn K (.ref D) "__class__" = some (some (.builtin "object.__class__"))
  sp : PySem.W.specialIn K (.builtin "object.__class__") "__get__" = some (some (.builtin "getset_descriptor.__get__"))
  tk : PySem.W.takesIn K (.builtin "object.__class__") = some true
  mo : PySem.W.mroIn K D (.type "object") = some true
def rIsD (K : PySem.W.Frag) (D : Addr) (a : Addr) (cls : Value) (d : Option Addr) : List V → Hp → VK → Prop := fun xs H Q =>
  ∃ c cv b dd fl, xs = [.ref a, c] ∧ cls = .ref D ∧ d = some dd ∧ (∀ u, RelV c u → u = cv) ∧ PySem.W.kitOne K (.ref D) cv = some b ∧ H dd = some (.xd fl) ∧ Q (.bl b) H
theorem call_isD {X : Cx} {a D : Addr} {cls : Value} {do_ : Option Addr} {oe : Obj} {pn : List (Addr × Obj)} (C : ExcD X.K D) (hz : Zc cls do_ oe) (hf : ∃ vs, oe.data = .fields vs) :
    CallR (X.suite a ((a, oe) :: pn)) (.builtin "isinstance") (rIsD X.K D a cls do_) := by
  intro pins s σ H xs us Q I r h
  obtain ⟨c, cv, b, d, fl, rfl, rfl, rfl, hcv, e, hd, q⟩ := h
  cases r with
  | cons rx rr =>
    cases rr with
    | cons rt rn =>
      cases rn
      obtain rfl := hcv _ rt
      obtain rfl : _ = Value.ref a := rx
      obtain ⟨ha, _⟩ := I.pin (a, oe) (List.mem_append_left _ List.mem_cons_self)
      obtain ⟨vs, hv⟩ := hf
      have hx : ObjOk X.prog X.w H s.heap d (.xd fl) := I.hok d _ hd
      obtain ⟨mA, hns, hr⟩ := hx
      obtain ⟨od, ho, hl⟩ := lookIn_ns hns
      have J : PySem.W.InstAt s.heap a oe D (some od) := ⟨ha, hz.1, by unfold PySem.W.notCls; rw [hv] <;> rfl, by rw [hz.2]; exact ho⟩
      exact PySem.W.kia_one (PySem.W.kitx_exc C.cl C.ga C.gg C.ex C.cc C.sp C.tk C.mo) I.kIn J e (by intro z; cases z) fun tk => ⟨V.bl b, H, I.tok _, rfl, q⟩
end
end L2
namespace Mine
open PySem
/-- an error of the class at S is what the clause that names S takes -/
theorem exm_own {K : PySem.W.Frag} {S : Addr} (h1 : PySem.W.subIn K (.ref S) (.type "BaseException") = some true) (h2 : PySem.W.isClsIn K S = true) (h3 : PySem.W.typeIn K (.ref S) = some (.type "type")) (h4 : PySem.W.subIn K (.ref S) (.ref S) = some true) :
    PySem.W.exmOne K (.ref S) (.ref S) = some true := by
  have e1 : (PySem.W.subIn K (.ref S) (.type "BaseException") == some true) = true := by rw [h1] <;> rfl
  have e2 : ((PySem.W.clsIn K S).isSome && PySem.W.typeIn K (.ref S) == some (.type "type")) = true := by
    have h2' : (PySem.W.clsIn K S).isSome = true := h2
    rw [h2', h3] <;> rfl
  show (if (PySem.W.subIn K (.ref S) (.type "BaseException") == some true) = true then (if ((PySem.W.clsIn K S).isSome && PySem.W.typeIn K (.ref S) == some (.type "type")) = true then PySem.W.subIn K (.ref S) (.ref S) else none) else none) = some true
  rw [if_pos e1, if_pos e2]
  exact h4
end Mine

set_option Elab.async false
set_option linter.all false
set_option maxRecDepth 100000
set_option maxHeartbeats 4000000


namespace Mine
open PySem PySem.Spec PyProof.Rows L2
def topS (i : Nat) : Stmt := PySem.Challenge.pw_deadbeat_k17_code_words_come_back.main.body.getD i (.Pass ⟨0, 0, 0, 0⟩)
abbrev s_decimal : Stmt := topS 3
theorem sc_decimal : FnScope ["n", "pieces", "rest", "low"] ["n"] (defScope s_decimal) := ⟨rfl, rfl, rfl, by decide +kernel, rfl, by decide +kernel, by decide +kernel⟩
abbrev s__law_start : Stmt := topS 25
theorem sc__law_start : FnScope ["script", "seed", "cell"] ["script"] (defScope s__law_start) := ⟨rfl, rfl, rfl, by decide +kernel, rfl, by decide +kernel, by decide +kernel⟩
abbrev s__law_draw : Stmt := topS 26
theorem sc__law_draw : FnScope ["state", "many", "found"] ["state", "many"] (defScope s__law_draw) := ⟨rfl, rfl, rfl, by decide +kernel, rfl, by decide +kernel, by decide +kernel⟩
abbrev s__in_range : Stmt := topS 18
theorem sc__in_range : FnScope ["part", "value", "low", "high"] ["part", "value"] (defScope s__in_range) := ⟨rfl, rfl, rfl, by decide +kernel, rfl, by decide +kernel, by decide +kernel⟩
abbrev s_is_instruction : Stmt := topS 17
theorem sc_is_instruction : FnScope ["item", "form", "part", "value"] ["item"] (defScope s_is_instruction) := ⟨rfl, rfl, rfl, by decide +kernel, rfl, by decide +kernel, by decide +kernel⟩
abbrev s__packed : Stmt := topS 22
theorem sc__packed : FnScope ["part", "value"] ["part", "value"] (defScope s__packed) := ⟨rfl, rfl, rfl, by decide +kernel, rfl, by decide +kernel, by decide +kernel⟩
abbrev s__unpacked : Stmt := topS 23
theorem sc__unpacked : FnScope ["part", "number"] ["part", "number"] (defScope s__unpacked) := ⟨rfl, rfl, rfl, by decide +kernel, rfl, by decide +kernel, by decide +kernel⟩
abbrev s__part_of : Stmt := topS 21
theorem sc__part_of : FnScope ["word", "part", "lowest", "many"] ["word", "part"] (defScope s__part_of) := ⟨rfl, rfl, rfl, by decide +kernel, rfl, by decide +kernel, by decide +kernel⟩
abbrev s_encode : Stmt := topS 19
theorem sc_encode : FnScope ["instruction", "word", "part", "value", "lowest", "_"] ["instruction"] (defScope s_encode) := ⟨rfl, rfl, rfl, by decide +kernel, rfl, by decide +kernel, by decide +kernel⟩
abbrev s_decode : Stmt := topS 20
theorem sc_decode : FnScope ["word", "opcode", "name", "instruction", "part"] ["word"] (defScope s_decode) := ⟨rfl, rfl, rfl, by decide +kernel, rfl, by decide +kernel, by decide +kernel⟩
abbrev s__law_name : Stmt := topS 27
theorem sc__law_name : FnScope ["at", "names"] ["at"] (defScope s__law_name) := ⟨rfl, rfl, rfl, by decide +kernel, rfl, by decide +kernel, by decide +kernel⟩
abbrev s__law_operation : Stmt := topS 28
theorem sc__law_operation : FnScope ["at", "names"] ["at"] (defScope s__law_operation) := ⟨rfl, rfl, rfl, by decide +kernel, rfl, by decide +kernel, by decide +kernel⟩
abbrev s__law_kinds : Stmt := topS 29
theorem sc__law_kinds : FnScope ["name"] ["name"] (defScope s__law_kinds) := ⟨rfl, rfl, rfl, by decide +kernel, rfl, by decide +kernel, by decide +kernel⟩
abbrev s__law_range : Stmt := topS 30
theorem sc__law_range : FnScope ["kind"] ["kind"] (defScope s__law_range) := ⟨rfl, rfl, rfl, by decide +kernel, rfl, by decide +kernel, by decide +kernel⟩
abbrev s__law_item : Stmt := topS 31
theorem sc__law_item : FnScope ["state", "kind", "least", "greatest", "turn"] ["state", "kind"] (defScope s__law_item) := ⟨rfl, rfl, rfl, by decide +kernel, rfl, by decide +kernel, by decide +kernel⟩
abbrev s__law_right : Stmt := topS 32
theorem sc__law_right : FnScope ["kind", "item", "least", "greatest"] ["kind", "item"] (defScope s__law_right) := ⟨rfl, rfl, rfl, by decide +kernel, rfl, by decide +kernel, by decide +kernel⟩
abbrev s__law_part : Stmt := topS 33
theorem sc__law_part : FnScope ["name", "kind", "item", "at"] ["name", "kind", "item"] (defScope s__law_part) := ⟨rfl, rfl, rfl, by decide +kernel, rfl, by decide +kernel, by decide +kernel⟩
abbrev s__law_instruction : Stmt := topS 34
theorem sc__law_instruction : FnScope ["state", "at", "name", "kinds", "items", "kind", "valid", "word", "k", "turn"] ["state"] (defScope s__law_instruction) := ⟨rfl, rfl, rfl, by decide +kernel, rfl, by decide +kernel, by decide +kernel⟩
abbrev s__law_refused : Stmt := topS 35
theorem sc__law_refused : FnScope ["instruction", "e"] ["instruction"] (defScope s__law_refused) := ⟨rfl, rfl, rfl, by decide +kernel, rfl, by decide +kernel, by decide +kernel⟩
abbrev s__law_holds : Stmt := topS 36
theorem sc__law_holds : FnScope ["state", "instruction", "valid", "word", "told", "found", "back"] ["state"] (defScope s__law_holds) := ⟨rfl, rfl, rfl, by decide +kernel, rfl, by decide +kernel, by decide +kernel⟩
abbrev s_law : Stmt := topS 37
theorem sc_law : FnScope ["script", "state", "k"] ["script"] (defScope s_law) := ⟨rfl, rfl, rfl, by decide +kernel, rfl, by decide +kernel, by decide +kernel⟩
def parts_CodeError : List Expr := [(PySem.Expr.Constant (PySem.Const.str "code at ") 0 ⟨20, 27, 20, 35⟩), (PySem.Expr.FormattedValue (value := (PySem.Expr.Call (func := (PySem.Expr.Name "decimal" ⟨20, 36, 20, 43⟩)) (args := [(PySem.Expr.Name "at" ⟨20, 44, 20, 46⟩)]) (keywords := []) (pos := ⟨20, 36, 20, 47⟩))) (conversion := (-1)) (format_spec := none) (pos := ⟨20, 35, 20, 48⟩))]
theorem fo_CodeError : PySem.Errs.FldOk "at" [("decimal", .globalImplicit)] parts_CodeError ⟨20, 25, 20, 49⟩ := ⟨rfl, rfl, rfl, rfl, rfl, (by decide), fun _ _ => rfl, fun _ _ => rfl, fun _ => rfl, fun _ _ _ _ _ _ _ _ _ _ _ _ _ => .of_eq rfl⟩
structure Top (P : Program) (w : World) (K : PySem.W.Frag) (mg : Str → Option Value) where
  C_CodeError : Addr
  gc_CodeError : mg "CodeError" = some (.ref C_CodeError)
  C_DeadbeatError : Addr
  gc_DeadbeatError : mg "DeadbeatError" = some (.ref C_DeadbeatError)
  f_CodeError : Addr
  x_CodeError : PySem.Errs.ErrTxt P K mg "CodeError" "at" [("decimal", .globalImplicit)] parts_CodeError ⟨20, 25, 20, 49⟩ C_CodeError f_CodeError
  xd_CodeError : ExcD K C_CodeError
  xf_CodeError : XfC K C_CodeError
  kt_CodeError_DeadbeatError : PySem.W.kitOne K (.ref C_CodeError) (.ref C_DeadbeatError) = some true
  kt_CodeError_ValueError : PySem.W.kitOne K (.ref C_CodeError) (.type "ValueError") = some true
  a_decimal : Addr
  d_decimal : FuncData
  F_decimal : Fun K "decimal" "decimal" s_decimal a_decimal d_decimal
  g_decimal : mg "decimal" = some (.ref a_decimal)
  b_decimal : Binds K d_decimal ["n"] []
  a__law_start : Addr
  d__law_start : FuncData
  F__law_start : Fun K "_law_start" "_law_start" s__law_start a__law_start d__law_start
  g__law_start : mg "_law_start" = some (.ref a__law_start)
  b__law_start : Binds K d__law_start ["script"] []
  a__law_draw : Addr
  d__law_draw : FuncData
  F__law_draw : Fun K "_law_draw" "_law_draw" s__law_draw a__law_draw d__law_draw
  g__law_draw : mg "_law_draw" = some (.ref a__law_draw)
  b__law_draw : Binds K d__law_draw ["state", "many"] []
  a__in_range : Addr
  d__in_range : FuncData
  F__in_range : Fun K "_in_range" "_in_range" s__in_range a__in_range d__in_range
  g__in_range : mg "_in_range" = some (.ref a__in_range)
  b__in_range : Binds K d__in_range ["part", "value"] []
  a_is_instruction : Addr
  d_is_instruction : FuncData
  F_is_instruction : Fun K "is_instruction" "is_instruction" s_is_instruction a_is_instruction d_is_instruction
  g_is_instruction : mg "is_instruction" = some (.ref a_is_instruction)
  b_is_instruction : Binds K d_is_instruction ["item"] []
  a__packed : Addr
  d__packed : FuncData
  F__packed : Fun K "_packed" "_packed" s__packed a__packed d__packed
  g__packed : mg "_packed" = some (.ref a__packed)
  b__packed : Binds K d__packed ["part", "value"] []
  a__unpacked : Addr
  d__unpacked : FuncData
  F__unpacked : Fun K "_unpacked" "_unpacked" s__unpacked a__unpacked d__unpacked
  g__unpacked : mg "_unpacked" = some (.ref a__unpacked)
  b__unpacked : Binds K d__unpacked ["part", "number"] []
  a__part_of : Addr
  d__part_of : FuncData
  F__part_of : Fun K "_part_of" "_part_of" s__part_of a__part_of d__part_of
  g__part_of : mg "_part_of" = some (.ref a__part_of)
  b__part_of : Binds K d__part_of ["word", "part"] []
  a_encode : Addr
  d_encode : FuncData
  F_encode : Fun K "encode" "encode" s_encode a_encode d_encode
  g_encode : mg "encode" = some (.ref a_encode)
  b_encode : Binds K d_encode ["instruction"] []
  a_decode : Addr
  d_decode : FuncData
  F_decode : Fun K "decode" "decode" s_decode a_decode d_decode
  g_decode : mg "decode" = some (.ref a_decode)
  b_decode : Binds K d_decode ["word"] []
  a__law_name : Addr
  d__law_name : FuncData
  F__law_name : Fun K "_law_name" "_law_name" s__law_name a__law_name d__law_name
  g__law_name : mg "_law_name" = some (.ref a__law_name)
  b__law_name : Binds K d__law_name ["at"] []
  a__law_operation : Addr
  d__law_operation : FuncData
  F__law_operation : Fun K "_law_operation" "_law_operation" s__law_operation a__law_operation d__law_operation
  g__law_operation : mg "_law_operation" = some (.ref a__law_operation)
  b__law_operation : Binds K d__law_operation ["at"] []
  a__law_kinds : Addr
  d__law_kinds : FuncData
  F__law_kinds : Fun K "_law_kinds" "_law_kinds" s__law_kinds a__law_kinds d__law_kinds
  g__law_kinds : mg "_law_kinds" = some (.ref a__law_kinds)
  b__law_kinds : Binds K d__law_kinds ["name"] []
  a__law_range : Addr
  d__law_range : FuncData
  F__law_range : Fun K "_law_range" "_law_range" s__law_range a__law_range d__law_range
  g__law_range : mg "_law_range" = some (.ref a__law_range)
  b__law_range : Binds K d__law_range ["kind"] []
  a__law_item : Addr
  d__law_item : FuncData
  F__law_item : Fun K "_law_item" "_law_item" s__law_item a__law_item d__law_item
  g__law_item : mg "_law_item" = some (.ref a__law_item)
  b__law_item : Binds K d__law_item ["state", "kind"] []
  a__law_right : Addr
  d__law_right : FuncData
  F__law_right : Fun K "_law_right" "_law_right" s__law_right a__law_right d__law_right
  g__law_right : mg "_law_right" = some (.ref a__law_right)
  b__law_right : Binds K d__law_right ["kind", "item"] []
  a__law_part : Addr
  d__law_part : FuncData
  F__law_part : Fun K "_law_part" "_law_part" s__law_part a__law_part d__law_part
  g__law_part : mg "_law_part" = some (.ref a__law_part)
  b__law_part : Binds K d__law_part ["name", "kind", "item"] []
  a__law_instruction : Addr
  d__law_instruction : FuncData
  F__law_instruction : Fun K "_law_instruction" "_law_instruction" s__law_instruction a__law_instruction d__law_instruction
  g__law_instruction : mg "_law_instruction" = some (.ref a__law_instruction)
  b__law_instruction : Binds K d__law_instruction ["state"] []
  a__law_refused : Addr
  d__law_refused : FuncData
  F__law_refused : Fun K "_law_refused" "_law_refused" s__law_refused a__law_refused d__law_refused
  g__law_refused : mg "_law_refused" = some (.ref a__law_refused)
  b__law_refused : Binds K d__law_refused ["instruction"] []
  a__law_holds : Addr
  d__law_holds : FuncData
  F__law_holds : Fun K "_law_holds" "_law_holds" s__law_holds a__law_holds d__law_holds
  g__law_holds : mg "_law_holds" = some (.ref a__law_holds)
  b__law_holds : Binds K d__law_holds ["state"] []
  a_law : Addr
  d_law : FuncData
  F_law : Fun K "law" "law" s_law a_law d_law
  g_law : mg "law" = some (.ref a_law)
  b_law : Binds K d_law ["script"] []
  m_str : mg "str" = none
  m_divmod : mg "divmod" = none
  m_abs : mg "abs" = none
  m_list : mg "list" = none
  m_int : mg "int" = none
  m_len : mg "len" = none
  m_isinstance : mg "isinstance" = none
  m_zip : mg "zip" = none
  m_all : mg "all" = none
  m_tuple : mg "tuple" = none
  m_range : mg "range" = none
  m_ValueError : mg "ValueError" = none
  m_bool : mg "bool" = none
  t_PIECE : Tok
  c_PIECE : mg "PIECE" = some (.int 1000000000000000000 t_PIECE)
  t_PIECE_DIGITS : Tok
  c_PIECE_DIGITS : mg "PIECE_DIGITS" = some (.int 18 t_PIECE_DIGITS)
  p_RANGES : Addr
  c_RANGES : mg "RANGES" = some (.ref p_RANGES)
  e_RANGES : Array DictEntry
  n_RANGES : Nat
  kd_RANGES : KDict K w p_RANGES e_RANGES n_RANGES
  t_RANGES_0 : Addr
  i_RANGES_0 : PySem.W.nsIn K p_RANGES "r" = some (some (.ref t_RANGES_0))
  q_RANGES_0 : ∀ H, SqT K H t_RANGES_0 [.int (0), .int (8)]
  t_RANGES_1 : Addr
  i_RANGES_1 : PySem.W.nsIn K p_RANGES "s" = some (some (.ref t_RANGES_1))
  q_RANGES_1 : ∀ H, SqT K H t_RANGES_1 [.int (0), .int (8)]
  t_RANGES_2 : Addr
  i_RANGES_2 : PySem.W.nsIn K p_RANGES "t" = some (some (.ref t_RANGES_2))
  q_RANGES_2 : ∀ H, SqT K H t_RANGES_2 [.int (0), .int (8)]
  t_RANGES_3 : Addr
  i_RANGES_3 : PySem.W.nsIn K p_RANGES "signed" = some (some (.ref t_RANGES_3))
  q_RANGES_3 : ∀ H, SqT K H t_RANGES_3 [.int (-32768), .int (32767)]
  t_RANGES_4 : Addr
  i_RANGES_4 : PySem.W.nsIn K p_RANGES "upper" = some (some (.ref t_RANGES_4))
  q_RANGES_4 : ∀ H, SqT K H t_RANGES_4 [.int (0), .int (65535)]
  t_RANGES_5 : Addr
  i_RANGES_5 : PySem.W.nsIn K p_RANGES "a" = some (some (.ref t_RANGES_5))
  q_RANGES_5 : ∀ H, SqT K H t_RANGES_5 [.int (0), .int (16383)]
  t_RANGES_6 : Addr
  i_RANGES_6 : PySem.W.nsIn K p_RANGES "cells" = some (some (.ref t_RANGES_6))
  q_RANGES_6 : ∀ H, SqT K H t_RANGES_6 [.int (1), .int (64)]
  t_RANGES_7 : Addr
  i_RANGES_7 : PySem.W.nsIn K p_RANGES "c" = some (some (.ref t_RANGES_7))
  q_RANGES_7 : ∀ H, SqT K H t_RANGES_7 [.int (0), .int (255)]
  t_RANGES_8 : Addr
  i_RANGES_8 : PySem.W.nsIn K p_RANGES "rounds" = some (some (.ref t_RANGES_8))
  q_RANGES_8 : ∀ H, SqT K H t_RANGES_8 [.int (1), .int (64)]
  t_RANGES_9 : Addr
  i_RANGES_9 : PySem.W.nsIn K p_RANGES "p" = some (some (.ref t_RANGES_9))
  q_RANGES_9 : ∀ H, SqT K H t_RANGES_9 [.int (0), .int (4095)]
  t_RANGES_10 : Addr
  i_RANGES_10 : PySem.W.nsIn K p_RANGES "o" = some (some (.ref t_RANGES_10))
  q_RANGES_10 : ∀ H, SqT K H t_RANGES_10 [.int (0), .int (3)]
  t_RANGES_11 : Addr
  i_RANGES_11 : PySem.W.nsIn K p_RANGES "q" = some (some (.ref t_RANGES_11))
  q_RANGES_11 : ∀ H, SqT K H t_RANGES_11 [.int (0), .int (7)]
  p_CALCULATIONS : Addr
  c_CALCULATIONS : mg "CALCULATIONS" = some (.ref p_CALCULATIONS)
  l_CALCULATIONS : ∃ o, K.lookup p_CALCULATIONS = some o ∧ o.cls = .type "tuple" ∧ o.dict = none
  q_CALCULATIONS : ∀ H, SqT K H p_CALCULATIONS [.str "add", .str "sub", .str "mul", .str "div", .str "mod", .str "and", .str "or", .str "xor", .str "shl", .str "shr", .str "ult", .str "ule", .str "slt", .str "sle", .str "eq", .str "ne", .str "nor"]
  t_DATA_WORDS : Tok
  c_DATA_WORDS : mg "DATA_WORDS" = some (.int 16384 t_DATA_WORDS)
  p_FORMS : Addr
  c_FORMS : mg "FORMS" = some (.ref p_FORMS)
  e_FORMS : Array DictEntry
  n_FORMS : Nat
  kd_FORMS : KDict K w p_FORMS e_FORMS n_FORMS
  t_FORMS_0 : Addr
  i_FORMS_0 : PySem.W.nsIn K p_FORMS "set" = some (some (.ref t_FORMS_0))
  q_FORMS_0 : ∀ H, SqT K H t_FORMS_0 [.str "r", .str "signed"]
  t_FORMS_1 : Addr
  i_FORMS_1 : PySem.W.nsIn K p_FORMS "high" = some (some (.ref t_FORMS_1))
  q_FORMS_1 : ∀ H, SqT K H t_FORMS_1 [.str "r", .str "upper"]
  t_FORMS_2 : Addr
  i_FORMS_2 : PySem.W.nsIn K p_FORMS "calc" = some (some (.ref t_FORMS_2))
  q_FORMS_2 : ∀ H, SqT K H t_FORMS_2 [.str "k", .str "r", .str "s", .str "t"]
  t_FORMS_3 : Addr
  i_FORMS_3 : PySem.W.nsIn K p_FORMS "load" = some (some (.ref t_FORMS_3))
  q_FORMS_3 : ∀ H, SqT K H t_FORMS_3 [.str "r", .str "a"]
  t_FORMS_4 : Addr
  i_FORMS_4 : PySem.W.nsIn K p_FORMS "store" = some (some (.ref t_FORMS_4))
  q_FORMS_4 : ∀ H, SqT K H t_FORMS_4 [.str "r", .str "a"]
  t_FORMS_5 : Addr
  i_FORMS_5 : PySem.W.nsIn K p_FORMS "loadx" = some (some (.ref t_FORMS_5))
  q_FORMS_5 : ∀ H, SqT K H t_FORMS_5 [.str "r", .str "s", .str "a", .str "cells"]
  t_FORMS_6 : Addr
  i_FORMS_6 : PySem.W.nsIn K p_FORMS "storex" = some (some (.ref t_FORMS_6))
  q_FORMS_6 : ∀ H, SqT K H t_FORMS_6 [.str "r", .str "s", .str "a", .str "cells"]
  t_FORMS_7 : Addr
  i_FORMS_7 : PySem.W.nsIn K p_FORMS "jump" = some (some (.ref t_FORMS_7))
  q_FORMS_7 : ∀ H, SqT K H t_FORMS_7 [.str "p"]
  t_FORMS_8 : Addr
  i_FORMS_8 : PySem.W.nsIn K p_FORMS "jzero" = some (some (.ref t_FORMS_8))
  q_FORMS_8 : ∀ H, SqT K H t_FORMS_8 [.str "r", .str "p"]
  t_FORMS_9 : Addr
  i_FORMS_9 : PySem.W.nsIn K p_FORMS "count" = some (some (.ref t_FORMS_9))
  q_FORMS_9 : ∀ H, SqT K H t_FORMS_9 [.str "c", .str "rounds"]
  t_FORMS_10 : Addr
  i_FORMS_10 : PySem.W.nsIn K p_FORMS "again" = some (some (.ref t_FORMS_10))
  q_FORMS_10 : ∀ H, SqT K H t_FORMS_10 [.str "c", .str "p"]
  t_FORMS_11 : Addr
  i_FORMS_11 : PySem.W.nsIn K p_FORMS "link" = some (some (.ref t_FORMS_11))
  q_FORMS_11 : ∀ H, SqT K H t_FORMS_11 [.str "p"]
  t_FORMS_12 : Addr
  i_FORMS_12 : PySem.W.nsIn K p_FORMS "back" = some (some (.ref t_FORMS_12))
  q_FORMS_12 : ∀ H, SqT K H t_FORMS_12 []
  t_FORMS_13 : Addr
  i_FORMS_13 : PySem.W.nsIn K p_FORMS "done" = some (some (.ref t_FORMS_13))
  q_FORMS_13 : ∀ H, SqT K H t_FORMS_13 []
  t_FORMS_14 : Addr
  i_FORMS_14 : PySem.W.nsIn K p_FORMS "enter" = some (some (.ref t_FORMS_14))
  q_FORMS_14 : ∀ H, SqT K H t_FORMS_14 [.str "o"]
  t_FORMS_15 : Addr
  i_FORMS_15 : PySem.W.nsIn K p_FORMS "leave" = some (some (.ref t_FORMS_15))
  q_FORMS_15 : ∀ H, SqT K H t_FORMS_15 [.str "o"]
  t_FORMS_16 : Addr
  i_FORMS_16 : PySem.W.nsIn K p_FORMS "in" = some (some (.ref t_FORMS_16))
  q_FORMS_16 : ∀ H, SqT K H t_FORMS_16 [.str "r", .str "q"]
  t_FORMS_17 : Addr
  i_FORMS_17 : PySem.W.nsIn K p_FORMS "out" = some (some (.ref t_FORMS_17))
  q_FORMS_17 : ∀ H, SqT K H t_FORMS_17 [.str "r", .str "q"]
  x_FORMS_0 : PySem.W.nsIn K p_FORMS "halt" = some none
  x_FORMS_1 : PySem.W.nsIn K p_FORMS "" = some none
  t_SIGNED_VALUES : Tok
  c_SIGNED_VALUES : mg "SIGNED_VALUES" = some (.int 65536 t_SIGNED_VALUES)
  t_GREATEST_SIGNED : Tok
  c_GREATEST_SIGNED : mg "GREATEST_SIGNED" = some (.int 32767 t_GREATEST_SIGNED)
  p_BITS : Addr
  c_BITS : mg "BITS" = some (.ref p_BITS)
  e_BITS : Array DictEntry
  n_BITS : Nat
  kd_BITS : KDict K w p_BITS e_BITS n_BITS
  t_BITS_0 : Addr
  i_BITS_0 : PySem.W.nsIn K p_BITS "r" = some (some (.ref t_BITS_0))
  q_BITS_0 : ∀ H, SqT K H t_BITS_0 [.int (26), .int (4)]
  t_BITS_1 : Addr
  i_BITS_1 : PySem.W.nsIn K p_BITS "s" = some (some (.ref t_BITS_1))
  q_BITS_1 : ∀ H, SqT K H t_BITS_1 [.int (22), .int (4)]
  t_BITS_2 : Addr
  i_BITS_2 : PySem.W.nsIn K p_BITS "t" = some (some (.ref t_BITS_2))
  q_BITS_2 : ∀ H, SqT K H t_BITS_2 [.int (18), .int (4)]
  t_BITS_3 : Addr
  i_BITS_3 : PySem.W.nsIn K p_BITS "k" = some (some (.ref t_BITS_3))
  q_BITS_3 : ∀ H, SqT K H t_BITS_3 [.int (13), .int (5)]
  t_BITS_4 : Addr
  i_BITS_4 : PySem.W.nsIn K p_BITS "signed" = some (some (.ref t_BITS_4))
  q_BITS_4 : ∀ H, SqT K H t_BITS_4 [.int (0), .int (16)]
  t_BITS_5 : Addr
  i_BITS_5 : PySem.W.nsIn K p_BITS "upper" = some (some (.ref t_BITS_5))
  q_BITS_5 : ∀ H, SqT K H t_BITS_5 [.int (0), .int (16)]
  t_BITS_6 : Addr
  i_BITS_6 : PySem.W.nsIn K p_BITS "a" = some (some (.ref t_BITS_6))
  q_BITS_6 : ∀ H, SqT K H t_BITS_6 [.int (0), .int (14)]
  t_BITS_7 : Addr
  i_BITS_7 : PySem.W.nsIn K p_BITS "cells" = some (some (.ref t_BITS_7))
  q_BITS_7 : ∀ H, SqT K H t_BITS_7 [.int (14), .int (6)]
  t_BITS_8 : Addr
  i_BITS_8 : PySem.W.nsIn K p_BITS "c" = some (some (.ref t_BITS_8))
  q_BITS_8 : ∀ H, SqT K H t_BITS_8 [.int (22), .int (8)]
  t_BITS_9 : Addr
  i_BITS_9 : PySem.W.nsIn K p_BITS "rounds" = some (some (.ref t_BITS_9))
  q_BITS_9 : ∀ H, SqT K H t_BITS_9 [.int (0), .int (6)]
  t_BITS_10 : Addr
  i_BITS_10 : PySem.W.nsIn K p_BITS "p" = some (some (.ref t_BITS_10))
  q_BITS_10 : ∀ H, SqT K H t_BITS_10 [.int (0), .int (12)]
  t_BITS_11 : Addr
  i_BITS_11 : PySem.W.nsIn K p_BITS "o" = some (some (.ref t_BITS_11))
  q_BITS_11 : ∀ H, SqT K H t_BITS_11 [.int (0), .int (4)]
  t_BITS_12 : Addr
  i_BITS_12 : PySem.W.nsIn K p_BITS "q" = some (some (.ref t_BITS_12))
  q_BITS_12 : ∀ H, SqT K H t_BITS_12 [.int (0), .int (4)]
  p_NAMES : Addr
  c_NAMES : mg "NAMES" = some (.ref p_NAMES)
  l_NAMES : ∃ o, K.lookup p_NAMES = some o ∧ o.cls = .type "tuple" ∧ o.dict = none
  q_NAMES : ∀ H, SqT K H p_NAMES [.str "set", .str "high", .str "calc", .str "load", .str "store", .str "loadx", .str "storex", .str "jump", .str "jzero", .str "count", .str "again", .str "link", .str "back", .str "done", .str "enter", .str "leave", .str "in", .str "out"]
  t_OPCODE_BIT : Tok
  c_OPCODE_BIT : mg "OPCODE_BIT" = some (.int 30 t_OPCODE_BIT)
/-- the state of the law's draws: the list at p, the cells' copy at c -/
def StOk (H : Hp) (p c : Addr) : Prop := ∃ (ms : List Int) (k : Nat) (v sd : Int), p ≠ c ∧ H p = some (.lst [.ref c, .int k, .int v, .int sd]) ∧ H c = some (.lst (ms.map V.int)) ∧ ms.length ≤ 63 ∧ 0 ≤ v ∧ 0 ≤ sd ∧ sd ≤ 2147483647
/-- all but the object at p is as it was -/
def Keep (p : Addr) (H H' : Hp) : Prop := ∀ b o, b ≠ p → H b = some o → H' b = some o
theorem Keep.refl (p : Addr) (H : Hp) : Keep p H H := fun _ _ _ h => h
theorem Keep.trans {p : Addr} {H H1 H2 : Hp} (a : Keep p H H1) (b : Keep p H1 H2) : Keep p H H2 := fun x o h1 h => b x o h1 (a x o h1 h)
theorem Keep.same {p : Addr} {H H1 : Hp} (a : Same H H1) : Keep p H H1 := fun x o _ h => a x o h
theorem Keep.at {p : Addr} {H : Hp} {o : HO} : Keep p H (upd H p o) := fun x u h1 h => by
  rw [upd_ne h1]
  exact h
theorem StOk.same {H H' : Hp} {p c : Addr} (s : StOk H p c) (e : Same H H') : StOk H' p c := by
  obtain ⟨ms, k, v, sd, h1, h2, h3, h⟩ := s
  exact ⟨ms, k, v, sd, h1, e _ _ h2, e _ _ h3, h⟩
theorem StOk.ne {H : Hp} {p c l : Addr} (s : StOk H p c) (h : H l = Option.none) : l ≠ p ∧ l ≠ c := by
  obtain ⟨ms, k, v, sd, h1, h2, h3, _⟩ := s
  exact ⟨fun z => (by rw [z, h2] at h; cases h), fun z => (by rw [z, h3] at h; cases h)⟩
/-- an address that is free behind was free before -/
theorem Keep.free {p c : Addr} {H H' : Hp} (k : Keep p H H') (s : StOk H' p c) {l : Addr} (h : H' l = Option.none) : H l = Option.none := by
  cases e : H l with
  | none => rfl
  | some o =>
    rw [k l o (s.ne h).1 e] at h
    cases h
def absI (n : Int) : Int := if n < 0 then -n else n
theorem abs_nn (n : Int) : 0 ≤ absI n := by
  unfold absI
  split <;> omega
section
variable {P : Program} {w : World} {K : PySem.W.Frag} {mg : Str → Option Value} {base : Heap}
def sp__law_start (K : PySem.W.Frag) : Sp := fun vs H Q _ => ∃ (a : Addr) (ns : List Int), vs = [.ref a] ∧ SqL K H a (ns.map V.int) ∧ ns.length ≤ 63 ∧ ∀ (H' : Hp) (p c : Addr), Same H H' → H p = none → H c = none → StOk H' p c → Q (.ref p) H'
theorem ok__law_start (T : Top P w K mg) : FnOk P w K mg base CX0 1 T.a__law_start T.d__law_start ["script"]  (sp__law_start K) := by
  refine T.F__law_start.ok sc__law_start (fun vs H Q E h => ?_) (fun cdv A outer s H vs Q E hr h => ?_)
  · obtain ⟨_, _, rfl, _⟩ := h
    rfl
  · obtain ⟨a, ns, rfl, hS, hlen, q⟩ := h
    refine ⟨_, (pss_cons (ps_set (i := 1) sc__law_start.nd rfl (by first | exact Or.inl rfl | exact Or.inr rfl) pe_int)
  (pss_cons (ps_for PassesOwn.never rfl (pi_list (pv 0)) (pg_name (i := 2) sc__law_start.nd rfl (by first | exact Or.inl rfl | exact Or.inr rfl))
  (pss_one (ps_set (i := 1) sc__law_start.nd rfl (by first | exact Or.inl rfl | exact Or.inr rfl) (pe_op op_mod (pe_callTy call_int1 (by rfl) T.m_int (by decide +kernel) (pa_cons (pe_op op_add (pe_op op_mul (pv 1) pe_int) (pv 2)) pa_nil)) pe_int))))
  (pss_one (ps_ret (pe_lst (pa_cons (pe_callTy call_list_of (by rfl) T.m_list (by decide +kernel) (pa_cons (pv 0) pa_nil)) (pa_cons pe_int (pa_cons pe_int (pa_cons (pe_op op_add (pv 1) pe_int) pa_nil))))))))), ?_⟩
    refine ⟨_, rfl, a, rfl, ⟨_, hS⟩, for_list (xs := ns.map V.int) (fun i σ H' => ∃ sd y2, σ = [some (.ref a), some (.int sd), y2] ∧ H' = H ∧ 0 ≤ sd ∧ sd < 1000003) ⟨7, none, rfl, rfl, by decide, by decide⟩ (fun i σ H' _ ⟨_, _, _, e, _⟩ => by rw [e]; exact hS) ?_ ?_⟩
    · rintro i x σ H' hi ⟨sd, y2, rfl, rfl, h0, h1⟩
      obtain ⟨n, _, rfl⟩ := List.mem_map.mp (List.mem_of_getElem? hi)
      refine ⟨_, rfl, _, _, rfl, rfl, .inl ⟨by omega, by omega⟩, _, rfl, _, _, rfl, rfl, .inl ⟨_, rfl, _, _, rfl, rfl, (by show (0 : Int) < 1000003; decide), ?_⟩⟩
      exact ⟨_, _, rfl, rfl, Int.emod_nonneg _ (by decide), Int.emod_lt_of_pos _ (by decide)⟩
    · rintro σ H' ⟨sd, y2, rfl, rfl, h0, h1⟩
      refine ⟨_, rfl, a, _, rfl, .inl hS, fun c hc => ?_⟩
      refine ⟨_, rfl, _, _, rfl, rfl, (by show 4 ≤ sizeLine; decide), fun p hp => ?_⟩
      have npc : p ≠ c := fun z => by rw [z, upd_same] at hp; cases hp
      refine q _ p c ((same_new hc).trans (same_new hp)) ((same_new hc).free hp) hc ⟨ns, 0, 0, sd + 1, npc, upd_same, ?_, hlen, by decide, by omega, by omega⟩
      rw [upd_ne npc.symm, upd_same]
      all_goals rfl
theorem ix4 {n : Nat} {i : Int} {j : Nat} (e : i = (j : Int)) (h : j < n) : ixN n i = some j := by
  subst e
  unfold ixN
  rw [if_pos (by omega), if_pos (by omega)]
  rfl
def sp__law_draw : Sp := fun vs H Q _ => ∃ (p c : Addr) (many : Int), vs = [.ref p, .int many] ∧ StOk H p c ∧ 0 < many ∧ many ≤ 1099511627775 ∧ ∀ (v : Int) (H' : Hp), 0 ≤ v → v < many → StOk H' p c → Keep p H H' → Q (.int v) H'
theorem ok__law_draw (T : Top P w K mg) : FnOk P w K mg base CX0 1 T.a__law_draw T.d__law_draw ["state", "many"]  sp__law_draw := by
  refine T.F__law_draw.ok sc__law_draw (fun vs H Q E h => ?_) (fun cdv A outer s H vs Q E hr h => ?_)
  · obtain ⟨_, _, _, rfl, _⟩ := h
    rfl
  · obtain ⟨p, c, many, rfl, hst, hm0, hm1, q⟩ := h
    obtain ⟨ms, k, v, sd, npc, hp, hc, hl, v0, s0, s1⟩ := hst
    refine ⟨_, (pss_cons (ps_if (pt_cmpR op_eq (pe_ix ix_list (pv 0) pe_int (fun _ _ => rfl)) pe_int (nomark _))
  (pss_cons (ps_if (pt_cmpR op_lt (pe_ix ix_list (pv 0) pe_int (fun _ _ => rfl)) (pe_callB call_len_seq (by rfl) T.m_len PySem.boot_len (pa_cons (pe_ix ix_list (pv 0) pe_int (fun _ _ => rfl)) pa_nil)) (nomark _))
  (pss_one (ps_asg (pe_callB call_abs (by rfl) T.m_abs (by decide +kernel) (pa_cons (pe_ix ix_list (pe_ix ix_list (pv 0) pe_int (fun _ _ => rfl)) (pe_ix ix_list (pv 0) pe_int (fun _ _ => rfl)) (fun _ _ => rfl)) pa_nil)) (pg_sub (pv 0) pe_int set_list)))
  (pss_cons (ps_asg (pe_op op_mod (pe_callTy call_int1 (by rfl) T.m_int (by decide +kernel) (pa_cons (pe_op op_add (pe_op op_mul (pe_ix ix_list (pv 0) pe_int (fun _ _ => rfl)) pe_int) pe_int) pa_nil)) pe_int) (pg_sub (pv 0) pe_int set_list))
  (pss_one (ps_asg (pe_op op_fdivW (pe_callTy call_int1 (by rfl) T.m_int (by decide +kernel) (pa_cons (pe_ix ix_list (pv 0) pe_int (fun _ _ => rfl)) pa_nil)) pe_int) (pg_sub (pv 0) pe_int set_list)))))
  (pss_one (ps_asg (pe_op op_add (pe_ix ix_list (pv 0) pe_int (fun _ _ => rfl)) pe_int) (pg_sub (pv 0) pe_int set_list))))
  pss_nil)
  (pss_cons (ps_set (i := 2) sc__law_draw.nd rfl (by first | exact Or.inl rfl | exact Or.inr rfl) (pe_op op_mod (pe_callTy call_int1 (by rfl) T.m_int (by decide +kernel) (pa_cons (pe_ix ix_list (pv 0) pe_int (fun _ _ => rfl)) pa_nil)) (pv 1)))
  (pss_cons (ps_asg (pe_op op_fdivW (pe_callTy call_int1 (by rfl) T.m_int (by decide +kernel) (pa_cons (pe_ix ix_list (pv 0) pe_int (fun _ _ => rfl)) pa_nil)) (pv 1)) (pg_sub (pv 0) pe_int set_list))
  (pss_one (ps_ret (pv 2)))))), ?_⟩
    have fin : ∀ (k' : Nat) (v' sd' : Int) (H' : Hp), H' = upd H p (.lst [.ref c, .int k', .int v', .int sd']) → 0 ≤ v' → 0 ≤ sd' → sd' ≤ 2147483647 → Q (.int (v' % many)) (upd H' p (.lst [.ref c, .int k', .int (v' / many), .int sd'])) := fun k' v' sd' H' e hv h0 h1 => by
      subst e
      refine q _ _ (Int.emod_nonneg _ (by omega)) (Int.emod_lt_of_pos _ hm0) ⟨ms, k', v' / many, sd', npc, upd_same, ?_, hl, Int.ediv_nonneg hv (by omega), h0, h1⟩ ?_
      · rw [upd_ne npc.symm, upd_ne npc.symm]
        exact hc
      · exact Keep.at.trans Keep.at
    have hw : many.natAbs < 2 ^ 40 := by omega
    refine ⟨_, rfl, p, _, 2, .int v, rfl, rfl, SqL.of hp, atI_nat (j := 2) rfl, rfl, _, rfl, ite2 (fun cc => ?_) (fun cc => ?_)⟩
    · -- the next cell, or a mixed one
      have key : ∀ (v2 sd2 : Int) (H2 : Hp), H2 = upd H p (.lst [.ref c, .int k, .int v2, .int sd2]) → 0 ≤ v2 → 0 ≤ sd2 → sd2 ≤ 2147483647 → _ := fun v2 sd2 H2 e hv h0 h1 => fin (k + 1) v2 sd2 (upd H2 p (.lst [.ref c, .int ((k + 1 : Nat) : Int), .int v2, .int sd2])) (by rw [e, upd_upd]) hv h0 h1
      refine ⟨_, rfl, p, _, 1, .int k, rfl, rfl, SqL.of hp, atI_nat (j := 1) rfl, _, rfl, p, _, 0, .ref c, rfl, rfl, SqL.of hp, atI_nat (j := 0) rfl, c, _, rfl, .inl (SqL.of hc), _, _, rfl, rfl, _, rfl, ite2 (fun c2 => ?_) (fun c2 => ?_)⟩
      · have hk : k < ms.length := by
          have := of_decide_eq_true c2
          rw [List.length_map] at this
          omega
        obtain ⟨m, hm⟩ : ∃ m, ms[k]? = some m := ⟨_, List.getElem?_eq_getElem hk⟩
        refine ⟨_, rfl, p, _, 0, .ref c, rfl, rfl, SqL.of hp, atI_nat (j := 0) rfl, _, rfl, p, _, 1, .int k, rfl, rfl, SqL.of hp, atI_nat (j := 1) rfl, c, _, k, .int m, rfl, rfl, SqL.of hc, atI_nat (j := k) (by rw [List.getElem?_map, hm]; rfl), _, rfl, ?_⟩
        refine ⟨_, rfl, p, _, 2, 2, rfl, rfl, hp, rfl, ?_⟩
        refine ⟨_, rfl, p, _, 1, .int k, rfl, rfl, SqL.of upd_same, atI_nat (j := 1) rfl, _, _, rfl, rfl, _, rfl, p, _, 1, 1, rfl, rfl, upd_same, rfl, ?_⟩
        refine ⟨_, rfl, p, _, 2, .int (absI m), rfl, rfl, SqL.of upd_same, atI_nat (j := 2) rfl, .inl ⟨_, rfl, _, rfl, _, _, rfl, rfl, hm0, ?_⟩⟩
        refine ⟨_, rfl, p, _, 2, .int (absI m), rfl, rfl, SqL.of upd_same, atI_nat (j := 2) rfl, .inl ⟨_, rfl, _, rfl, _, _, rfl, rfl, wide_div hm0 hw (by decide) (by decide), _, rfl, p, _, 2, 2, rfl, rfl, upd_same, rfl, ?_⟩⟩
        exact ⟨_, rfl, key (absI m) sd _ rfl (abs_nn m) s0 s1⟩
      · have m0 := Int.emod_nonneg (sd * 48271 + 12345) (show (2147483647 : Int) ≠ 0 by decide)
        have m1 := Int.emod_lt_of_pos (sd * 48271 + 12345) (show (0 : Int) < 2147483647 by decide)
        refine ⟨_, rfl, p, _, 3, .int sd, rfl, rfl, SqL.of hp, atI_nat (j := 3) rfl, _, _, rfl, rfl, .inl ⟨by omega, by omega⟩, _, _, rfl, rfl, .inl ⟨_, rfl, _, _, rfl, rfl, (by show (0 : Int) < 2147483647; decide), ?_⟩⟩
        refine ⟨_, rfl, p, _, 3, 3, rfl, rfl, hp, rfl, ?_⟩
        refine ⟨_, rfl, p, _, 3, .int ((sd * 48271 + 12345) % 2147483647), rfl, rfl, SqL.of upd_same, atI_nat (j := 3) rfl, .inl ⟨_, rfl, _, _, rfl, rfl, wide_div (b := 10) (by decide) (by decide) (by decide) (by decide), _, rfl, p, _, 2, 2, rfl, rfl, upd_same, rfl, ?_⟩⟩
        refine ⟨_, rfl, p, _, 1, .int k, rfl, rfl, SqL.of upd_same, atI_nat (j := 1) rfl, _, _, rfl, rfl, _, rfl, p, _, 1, 1, rfl, rfl, upd_same, rfl, ?_⟩
        refine ⟨_, rfl, p, _, 2, .int ((sd * 48271 + 12345) % 2147483647 / 64), rfl, rfl, SqL.of upd_same, atI_nat (j := 2) rfl, .inl ⟨_, rfl, _, rfl, _, _, rfl, rfl, hm0, ?_⟩⟩
        refine ⟨_, rfl, p, _, 2, .int ((sd * 48271 + 12345) % 2147483647 / 64), rfl, rfl, SqL.of upd_same, atI_nat (j := 2) rfl, .inl ⟨_, rfl, _, rfl, _, _, rfl, rfl, wide_div hm0 hw (by decide) (by decide), _, rfl, p, _, 2, 2, rfl, rfl, upd_same, rfl, ?_⟩⟩
        exact ⟨_, rfl, key ((sd * 48271 + 12345) % 2147483647 / 64) ((sd * 48271 + 12345) % 2147483647) _ (by rw [upd_upd]; rfl) (Int.ediv_nonneg m0 (by decide)) m0 (by omega)⟩
    · refine ⟨_, rfl, p, _, 2, .int v, rfl, rfl, SqL.of hp, atI_nat (j := 2) rfl, .inl ⟨_, rfl, _, rfl, _, _, rfl, rfl, hm0, ?_⟩⟩
      refine ⟨_, rfl, p, _, 2, .int v, rfl, rfl, SqL.of hp, atI_nat (j := 2) rfl, .inl ⟨_, rfl, _, rfl, _, _, rfl, rfl, wide_div hm0 hw (by decide) (by decide), _, rfl, p, _, 2, 2, rfl, rfl, hp, rfl, ?_⟩⟩
      have := fin k v sd H (upd_self hp).symm v0 s0 s1
      exact ⟨_, rfl, this⟩
end

theorem bits_lt {n : Int} (h : Builtin.Int.intBits n ≤ 1048576) : n.natAbs < 2 ^ 1048576 := by
  unfold Builtin.Int.intBits at h
  by_cases e : n = 0
  · subst e; exact Nat.pow_pos (by decide)
  · have z : (n == 0) = false := by simpa using e
    rw [z] at h
    have h2 : n.natAbs.log2 < 1048576 := h
    exact (Nat.log2_lt (by omega)).mp h2
/-! ### deadbeat.words, decimal: an integer in decimal, some digits at a time -/
theorem dec_str (m : Nat) (h : m < 1000000000000000000) : (Str.ofString (toString ((m : Nat) : Int))).length ≤ 18 := by
  rw [SX.num_S m, SX.S_len]
  exact TL.numL_len (k := 18) (by decide) (by omega)
theorem dec_log (m : Nat) (h : m < 1000000000000000000) : ((m : Int).natAbs).log2 < 1920 := by
  by_cases h0 : m = 0
  · subst h0; decide
  · have z : ((m : Int).natAbs) = m := rfl
    rw [z]
    exact Nat.lt_trans ((Nat.log2_lt h0).mpr (show m < 2 ^ 60 by omega)) (by decide)
theorem zfill_le (x : Str) (h : x.length ≤ 18) : (Txt.zfill x 18).length ≤ 18 := by
  unfold Txt.zfill
  by_cases c : (18 : Int) ≤ x.length
  · rw [if_pos c]; exact h
  · rw [if_neg c]
    unfold PySem.zfilled
    have key : ∀ c, x.cps[0]? = some c → 1 ≤ x.length := fun c hc => (Array.getElem?_eq_some_iff.mp hc).1
    split
    · rename_i hc'
      have h2 := key _ hc'
      rw [PySem.size_cat, PySem.size_padded, PySem.size_strSub x 0 1 h2, PySem.size_strSub x 1 x.length (Nat.le_refl _)]; omega
    · rename_i hc'
      have h2 := key _ hc'
      rw [PySem.size_cat, PySem.size_padded, PySem.size_strSub x 0 1 h2, PySem.size_strSub x 1 x.length (Nat.le_refl _)]; omega
    · rw [PySem.size_padded]; omega
/-- the pieces so far: some short texts, what is left of n -/
structure DecInv (n : Int) (ps : List Str) (r : Int) : Prop where
  r0 : 0 ≤ r
  pos : ps = [] ∧ r = n.natAbs ∨ 1 ≤ r ∧ 1000000000000000000 ≤ n.natAbs
  le : r.toNat * (1000000000000000000 : Nat) ^ ps.length ≤ n.natAbs
  short : ∀ p ∈ ps, p.length ≤ 18
theorem dec_count {n : Int} {ps : List Str} {r : Int} (d : DecInv n ps r) (h : n.natAbs < 2 ^ 1048576) : ps.length ≤ 20000 := by
  rcases d.pos with ⟨e, _⟩ | e
  · rw [e]; exact Nat.zero_le _
  · have h1 : 1 ≤ r.toNat := by omega
    have h2 : (2 ^ 59 : Nat) ^ ps.length ≤ n.natAbs :=
      Nat.le_trans (Nat.pow_le_pow_left (show (2 ^ 59 : Nat) ≤ 1000000000000000000 by decide) _) (Nat.le_trans (Nat.le_mul_of_pos_left _ h1) d.le)
    rw [← Nat.pow_mul] at h2
    have h3 : 59 * ps.length < 1048576 := (Nat.pow_lt_pow_iff_right (by decide : 1 < 2)).mp (Nat.lt_of_le_of_lt h2 h)
    omega
theorem sum_short {ps : List Str} (h : ∀ p ∈ ps, p.length ≤ 18) : (ps.map (·.length)).sum ≤ 18 * ps.length := by
  induction ps with
  | nil => simp
  | cons a r ih =>
    have h1 := h a (by simp)
    have h2 := ih fun p hp => h p (by simp [hp])
    simp only [List.map_cons, List.sum_cons, List.length_cons]
    omega
section
variable {P : Program} {w : World} {K : PySem.W.Frag} {mg : Str → Option Value} {base : Heap}
def sp_decimal : Sp := fun vs H Q _ => ∃ n : Int, vs = [.int n] ∧ n.natAbs < 2 ^ 1048576 ∧
  ∀ (z : Str) (H' : Hp), z.length ≤ 1000000 → (0 ≤ n → n < 1000000000000000000 → z = toString n) → Same H H' → Q (.str z) H'
theorem ok_decimal (T : Top P w K mg) : FnOk P w K mg base CX0 1 T.a_decimal T.d_decimal ["n"]  sp_decimal := by
  refine T.F_decimal.ok sc_decimal (fun vs H Q E h => ?_) (fun cdv A outer s H vs Q E hr h => ?_)
  · obtain ⟨_, rfl, _⟩ := h
    rfl
  · obtain ⟨n, rfl, hn, q⟩ := h
    refine ⟨_, (pss_cons (ps_set (i := 1) sc_decimal.nd rfl (by first | exact Or.inl rfl | exact Or.inr rfl) (pe_lst pa_nil))
  (pss_cons (ps_set (i := 2) sc_decimal.nd rfl (by first | exact Or.inl rfl | exact Or.inr rfl) (pe_callB call_abs (by rfl) T.m_abs (by decide +kernel) (pa_cons (pv 0) pa_nil)))
  (pss_cons (ps_while PassesOwn.never (pt_cmpR op_ge (pv 2) (pe_gi (by rfl) T.c_PIECE) (nomark _))
  (pss_cons (ps_asg (pe_callB call_divmodW (by rfl) T.m_divmod (by decide +kernel) (pa_cons (pv 2) (pa_cons (pe_gi (by rfl) T.c_PIECE) pa_nil))) (pg_tup rfl (pgs_cons (pg_name (i := 2) sc_decimal.nd rfl (by first | exact Or.inl rfl | exact Or.inr rfl)) (pgs_cons (pg_name (i := 3) sc_decimal.nd rfl (by first | exact Or.inl rfl | exact Or.inr rfl)) pgs_nil))))
  (pss_one (ps_expr (pe_bm PySem.F.plainAttrs_list PySem.F.slot_list_append PySem.F.type_list_append mt_append (pv 1) (pa_cons (pe_bm PySem.F.plainAttrs_str PySem.F.slot_str_zfill PySem.F.type_str_zfill mt_zfill (pe_callTy call_str_int (by rfl) T.m_str (by decide +kernel) (pa_cons (pv 3) pa_nil)) (pa_cons (pe_gi (by rfl) T.c_PIECE_DIGITS) pa_nil)) pa_nil))))))
  (pss_cons (ps_expr (pe_bm PySem.F.plainAttrs_list PySem.F.slot_list_append PySem.F.type_list_append mt_append (pv 1) (pa_cons (pe_callTy call_str_int (by rfl) T.m_str (by decide +kernel) (pa_cons (pv 2) pa_nil)) pa_nil)))
  (Evl.pss_cut (ps_if (pt_cmpR op_lt (pv 0) pe_int (nomark _))
  (pss_one (ps_expr (pe_bm PySem.F.plainAttrs_list PySem.F.slot_list_append PySem.F.type_list_append mt_append (pv 1) (pa_cons pe_str pa_nil))))
  pss_nil)
  (pss_one (ps_ret (pe_bm PySem.F.plainAttrs_str PySem.F.slot_str_join PySem.F.type_str_join mt_join pe_str (pa_cons (pe_revL (pv 1)) pa_nil))))))))), ?_⟩
    refine ⟨Nat.zero_le _, fun p np => ?_⟩
    refine ⟨_, rfl, n, rfl, ?_⟩
    have ea : (if n < 0 then -n else n) = ((n.natAbs : Nat) : Int) := by split <;> omega
    show gName 2 (V.int (if n < 0 then -n else n)) _ _ _
    rw [ea]
    refine while_by (fun σ H' => ∃ (ps : List Str) (r : Int) (y : Option V), σ = [some (.int n), some (.ref p), some (.int r), y] ∧ H' p = some (.lst (ps.map V.str)) ∧ Same H H' ∧ DecInv n ps r)
      (fun σ _ => match σ with | [_, _, some (.int r), _] => r.toNat | _ => 0) ⟨[], _, none, rfl, upd_same, same_new np, ⟨by omega, .inl ⟨rfl, rfl⟩, by simp, by simp⟩⟩ ?_ ?_
    rotate_left
    · intro σ H' Q1 Q2 f h
      obtain ⟨i, h1, j, h2, a, h3, h4, h5, h6⟩ := h
      exact ⟨i, h1, j, h2, a, h3, h4, h5, f _ _ h6⟩
    · rintro σ H1 ⟨ps, r, y, rfl, hp, sm, d⟩
      have hcnt := dec_count d hn
      refine ⟨_, rfl, _, _, rfl, rfl, _, rfl, ?_⟩
      by_cases c : (1000000000000000000 : Int) ≤ r
      · rw [decide_eq_true c]
        refine iteT ?_
        refine ⟨_, rfl, _, _, rfl, ⟨by decide, PyProof.noPylong_of_log2 (by decide)⟩, fun t nt => ?_⟩
        have tp : p ≠ t := ne_of_none hp nt
        obtain ⟨lo, elo⟩ : ∃ lo : Nat, r % 1000000000000000000 = (lo : Int) := ⟨(r % 1000000000000000000).toNat, by omega⟩
        have lo1 : lo < 1000000000000000000 := by omega
        rw [elo]
        refine ⟨t, _, rfl, SqT.of upd_same, rfl, _, _, rfl, _, _, rfl, rfl, ?_⟩
        have hp' : upd H1 t (.tup [.int (r / 1000000000000000000), .int (lo : Int)]) p = some (.lst (ps.map V.str)) := by rw [upd_ne tp]; exact hp
        refine ⟨_, rfl, .inl ⟨rfl, _, SqL.of hp'⟩, _, rfl, _, rfl, dec_log lo lo1, rfl, _, _, rfl, rfl, rfl, p, _, _, rfl, rfl, hp', ?_, ?_⟩
        · rw [List.length_map, sizeLine_eq]; omega
        have z1 := zfill_le _ (dec_str lo lo1)
        refine ⟨⟨ps ++ [Txt.zfill (Str.ofString (toString ((lo : Nat) : Int))) 18], _, _, rfl, by rw [upd_same, List.map_append]; rfl, (sm.off (sm.free nt)).off np, ?_⟩, ?_⟩
        · have big : 1000000000000000000 ≤ n.natAbs := by
            have := Nat.le_trans (Nat.le_mul_of_pos_right r.toNat (Nat.pow_pos (n := ps.length) (by decide : 0 < 1000000000000000000))) d.le
            omega
          refine ⟨by omega, .inr ⟨by omega, big⟩, ?_, fun x hx => ?_⟩
          · rw [List.length_append, List.length_singleton, Nat.pow_succ, Nat.mul_comm ((1000000000000000000 : Nat) ^ ps.length), ← Nat.mul_assoc]
            refine Nat.le_trans (Nat.mul_le_mul_right _ ?_) d.le
            omega
          · rcases List.mem_append.mp hx with hx | hx
            · exact d.short x hx
            · rw [List.mem_singleton.mp hx]; exact z1
        · show (r / 1000000000000000000).toNat < r.toNat
          omega
      · rw [decide_eq_false c]
        refine iteF ?_
        have r0 := d.r0
        obtain ⟨m, rfl⟩ : ∃ m : Nat, r = (m : Int) := ⟨r.toNat, by omega⟩
        have m1 : m < 1000000000000000000 := by omega
        refine ⟨_, rfl, .inl ⟨rfl, _, SqL.of hp⟩, _, rfl, _, rfl, dec_log m m1, p, _, _, rfl, rfl, hp, ?_, ?_⟩
        · rw [List.length_map, sizeLine_eq]; omega
        obtain ⟨qs, eqs⟩ : ∃ qs : List Str, qs = ps ++ [Str.ofString (toString ((m : Nat) : Int))] := ⟨_, rfl⟩
        have hq : upd H1 p (.lst (ps.map V.str ++ [V.str (Str.ofString (toString ((m : Nat) : Int)))])) p = some (.lst (qs.map V.str)) := by rw [upd_same, eqs, List.map_append]; rfl
        have sm2 : Same H (upd H1 p (.lst (ps.map V.str ++ [V.str (Str.ofString (toString ((m : Nat) : Int)))]))) := sm.off np
        have short : ∀ x ∈ qs, x.length ≤ 18 := fun x hx => by
          rw [eqs] at hx
          rcases List.mem_append.mp hx with hx | hx
          · exact d.short x hx
          · rw [List.mem_singleton.mp hx]; exact dec_str m m1
        have cnt : qs.length ≤ 20001 := by rw [eqs, List.length_append, List.length_singleton]; omega
        refine ⟨fun σ' H2 => ∃ rs : List Str, σ' = [some (.int n), some (.ref p), some (.int (m : Int)), y] ∧ (∀ x ∈ rs, x.length ≤ 18) ∧ rs.length ≤ 20002 ∧ H2 p = some (.lst (rs.map V.str)) ∧ Same H H2 ∧ (0 ≤ n → n < 1000000000000000000 → rs = [Str.ofString (toString n)]), ?_, ?_⟩
        · refine ⟨_, rfl, _, _, rfl, rfl, _, rfl, ite2 (fun c2 => ?_) (fun c2 => ?_)⟩
          · have neg := of_decide_eq_true c2
            refine ⟨_, rfl, .inl ⟨rfl, _, SqL.of hq⟩, p, _, _, rfl, rfl, hq, ?_, ?_⟩
            · rw [List.length_map, sizeLine_eq]; omega
            · refine ⟨qs ++ [("-" : Str)], rfl, fun x hx => ?_, ?_, (by rw [upd_same, List.map_append]; rfl), sm2.off np, fun a _ => absurd neg (by omega)⟩
              · rcases List.mem_append.mp hx with hx | hx
                · exact short x hx
                · rw [List.mem_singleton.mp hx]; decide
              · rw [List.length_append]; exact Nat.succ_le_succ cnt
          · refine ⟨qs, rfl, short, (by omega), hq, sm2, fun a b => ?_⟩
            rcases d.pos with ⟨e, e2⟩ | ⟨e, e2⟩
            · have e3 : n = (m : Int) := by omega
              rw [eqs, e, e3]
              rfl
            · omega
        · rintro σ' H2 ⟨rs, rfl, hs, hl, h2, s2, hz⟩
          have sum := sum_short (ps := rs.reverse) (fun x hx => hs x (List.mem_reverse.mp hx))
          rw [List.length_reverse] at sum
          have e0 : ("" : Str).length = 0 := rfl
          refine ⟨rfl, _, rfl, p, _, rfl, SqL.of h2, fun u nu => ⟨"", u, rs.reverse, rfl, rfl, .inl (SqL.of (by rw [upd_same, List.map_reverse])), ?_, q _ _ ?_ (fun a b => ?_) (s2.trans (same_new nu))⟩⟩
          · rw [e0]; omega
          · show (PySem.Builtin.Str.glued "" rs.reverse).length ≤ _
            rw [PySem.size_glued, e0]; omega
          · rw [hz a b]
            rfl
end

theorem msg_CodeError {P : Program} {w : World} {K : PySem.W.Frag} {mg : Str → Option Value} {base : Heap} (T : Top P w K mg) {CX : CXT} {N : List Str} {qual : Str} {scope : Scope} {f : Addr} {cd : Value} {A : Around} {outer : List Env} {s : Shared} {H : Hp} {E : XK} {mp : Pos} {n : Int} (h : n.natAbs < 2 ^ 1048576) :
    MsgV (cxOf CX P w K mg base N qual scope f cd A outer s H E) 1 [("decimal", .globalImplicit)] parts_CodeError mp "at" (.int n) :=
  msg_dec2 (X := cxOf CX P w K mg base N qual scope f cd A outer s H E) (ok_decimal T) T.g_decimal T.F_decimal.kp T.b_decimal (fun Q E q => ⟨n, rfl, h, fun z H' hz _ _ => q z H' hz⟩) rfl rfl (by decide) (fun _ => rfl) (by decide)

/-! ### parts of instructions -/
inductive Prt where
  | k | r | s | t | sg | up | a | ce | c | ro | p | o | q
  deriving DecidableEq
/-- the name of a part in the program -/
def pn : Prt → Str
  | .k => "k" | .r => "r" | .s => "s" | .t => "t" | .sg => "signed" | .up => "upper" | .a => "a" | .ce => "cells" | .c => "c" | .ro => "rounds" | .p => "p" | .o => "o" | .q => "q"
/-- its kind in the law -/
def kn : Prt → Str
  | .k => "k" | .r => "r" | .s => "s" | .t => "t" | .sg => "g" | .up => "u" | .a => "a" | .ce => "e" | .c => "c" | .ro => "e" | .p => "p" | .o => "o" | .q => "q"
def lo : Prt → Int
  | .sg => -32768 | .ce => 1 | .ro => 1 | _ => 0
def hi : Prt → Int
  | .k => 16 | .r => 8 | .s => 8 | .t => 8 | .sg => 32767 | .up => 65535 | .a => 16383 | .ce => 64 | .c => 255 | .ro => 64 | .p => 4095 | .o => 3 | .q => 7
def sh : Prt → Nat
  | .k => 13 | .r => 26 | .s => 22 | .t => 18 | .sg => 0 | .up => 0 | .a => 0 | .ce => 14 | .c => 22 | .ro => 0 | .p => 0 | .o => 0 | .q => 0
def wd : Prt → Nat
  | .k => 5 | .r => 4 | .s => 4 | .t => 4 | .sg => 16 | .up => 16 | .a => 14 | .ce => 6 | .c => 8 | .ro => 6 | .p => 12 | .o => 4 | .q => 4
def formL : List (List Prt) := [[.r, .sg], [.r, .up], [.k, .r, .s, .t], [.r, .a], [.r, .a], [.r, .s, .a, .ce], [.r, .s, .a, .ce], [.p], [.r, .p], [.c, .ro], [.c, .p], [.p], [], [], [.o], [.o], [.r, .q], [.r, .q]]
def formOf (at_ : Nat) : List Prt := formL.getD at_ []
def NAMEV : List Str := ["set", "high", "calc", "load", "store", "loadx", "storex", "jump", "jzero", "count", "again", "link", "back", "done", "enter", "leave", "in", "out", "halt", ""]
def NAME18 : List Str := ["set", "high", "calc", "load", "store", "loadx", "storex", "jump", "jzero", "count", "again", "link", "back", "done", "enter", "leave", "in", "out"]
def nameOf (at_ : Nat) : Str := NAMEV.getD at_ ""
def CALC : List Str := ["add", "sub", "mul", "div", "mod", "and", "or", "xor", "shl", "shr", "ult", "ule", "slt", "sle", "eq", "ne", "nor"]
def CALC19 : List Str := CALC ++ (["sar", "not"] : List Str)
/-- an item is an int or a text -/
def Itm (v : V) : Prop := (∃ n : Int, v = .int n) ∨ ∃ z : Str, v = .str z
def inR : Prt → V → Bool
  | .k, .str z => decide (z ∈ CALC)
  | .k, _ => false
  | x, .int n => decide (lo x ≤ n) && decide (n ≤ hi x)
  | _, _ => false
/-- the number that stands for an item -/
def pk : Prt → V → Int
  | .k, .str z => (CALC.idxOf z : Int)
  | .sg, .int n => n % 65536
  | .ce, .int n => n - 1
  | .ro, .int n => n - 1
  | _, .int n => n
  | _, _ => 0
def sum34 : List V → Int
  | [_, _, .int x, .int y] => x + y
  | _ => 0
def allR (at_ : Nat) (items : List V) : Bool := ((formOf at_).zip items).all fun p => inR p.1 p.2
def insOk (at_ : Nat) (items : List V) : Bool := decide (at_ < 18) && (decide (items.length = (formOf at_).length) && (allR at_ items && (!(decide (at_ = 5) || decide (at_ = 6)) || decide (sum34 items ≤ 16384))))
def encF (w : Int) : List (Prt × V) → Int
  | [] => w
  | p :: r => encF (w + pk p.1 p.2 * 2 ^ sh p.1) r
def enc (at_ : Nat) (items : List V) : Int := encF (((at_ : Int) + 1) * 1073741824) ((formOf at_).zip items)
theorem at20 {P : Nat → Prop} (h : ∀ i : Fin 20, P i.val) : ∀ {at_ : Nat}, at_ < 20 → P at_ := fun {at_} h2 => h ⟨at_, h2⟩
theorem name_idx {at_ : Nat} (h : at_ < 18) : NAME18[at_]? = some (nameOf at_) ∧ ∀ m : Nat, m < at_ → NAME18[m]? ≠ some (nameOf at_) := by
  have : ∀ i : Fin 18, NAME18[i.val]? = some (nameOf i.val) ∧ ∀ m : Fin 18, m.val < i.val → NAME18[m.val]? ≠ some (nameOf i.val) := by decide +kernel
  have q := this ⟨at_, h⟩
  exact ⟨q.1, fun m hm => q.2 ⟨m, Nat.lt_trans hm h⟩ hm⟩
theorem calc_mem {j : Nat} (h : j < 17) : CALC19[j]? = CALC[j]? := by
  have : ∀ i : Fin 17, CALC19[i.val]? = CALC[i.val]? := by decide +kernel
  exact this ⟨j, h⟩
theorem calc_idx {z : Str} (h : z ∈ CALC) : ∃ j : Nat, j < 17 ∧ CALC[j]? = some z ∧ (∀ m : Nat, m < j → CALC[m]? ≠ some z) ∧ CALC.idxOf z = j := by
  have : ∀ i : Fin 17, CALC.idxOf (CALC.getD i.val "") = i.val := by decide +kernel
  have nd : ∀ i m : Fin 17, CALC[i.val]? = CALC[m.val]? → i = m := by decide +kernel
  obtain ⟨j, hj⟩ := List.getElem?_of_mem h
  have hl : j < 17 := (List.getElem?_eq_some_iff.mp hj).1
  refine ⟨j, hl, hj, fun m hm e => ?_, ?_⟩
  · have := nd ⟨j, hl⟩ ⟨m, by omega⟩ (by rw [hj, e])
    have := congrArg Fin.val this
    simp at this
    omega
  · have q := this ⟨j, hl⟩
    have e : CALC.getD j "" = z := by rw [List.getD_eq_getElem?_getD, hj]; rfl
    rw [e] at q
    exact q
theorem Itm.flat {v : V} (h : Itm v) : flatV v = true := by
  rcases h with ⟨n, rfl⟩ | ⟨z, rfl⟩ <;> rfl
theorem inV_str {z : Str} {l : List Str} : inV (.str z) (l.map V.str) = decide (z ∈ l) := by
  unfold inV
  rw [List.any_map]
  by_cases h : z ∈ l
  · rw [decide_eq_true h, List.any_eq_true]
    exact ⟨z, h, beq_self_eq_true z⟩
  · rw [decide_eq_false h, List.any_eq_false]
    intro y hy e
    have e2 : (y == z) = true := e
    exact h (by rw [← eq_of_beq e2]; exact hy)
theorem inV_int_str {n : Int} {l : List Str} : inV (.int n) (l.map V.str) = false := by
  unfold inV
  rw [List.any_map, List.any_eq_false]
  intro y _ e
  cases e
theorem inR_k {v : V} (h : Itm v) : inR .k v = inV v (CALC.map V.str) := by
  rcases h with ⟨n, rfl⟩ | ⟨z, rfl⟩
  · rw [inV_int_str]
    rfl
  · rw [inV_str]
    rfl
theorem inR_x {x : Prt} (hx : x ≠ .k) {n : Int} : inR x (.int n) = (decide (lo x ≤ n) && decide (n ≤ hi x)) := by
  cases x <;> first | rfl | exact absurd rfl hx
theorem inR_s {x : Prt} (hx : x ≠ .k) {z : Str} : inR x (.str z) = false := by
  cases x <;> first | rfl | exact absurd rfl hx
/-- a good item's number fits its place -/
theorem pk_fits {x : Prt} {v : V} (h : inR x v = true) : 0 ≤ pk x v ∧ pk x v < 2 ^ wd x := by
  cases x <;> cases v <;> first | exact absurd h Bool.false_ne_true | skip
  case k.str z =>
    have hz : z ∈ CALC := of_decide_eq_true h
    obtain ⟨j, hj, _, _, e⟩ := calc_idx hz
    show 0 ≤ (CALC.idxOf z : Int) ∧ (CALC.idxOf z : Int) < 2 ^ 5
    rw [e]
    omega
  all_goals
    rename_i n
    have h2 : (decide (_ ≤ n) && decide (n ≤ _)) = true := h
    rw [Bool.and_eq_true, decide_eq_true_eq, decide_eq_true_eq] at h2
    obtain ⟨h3, h4⟩ := h2
    simp only [lo, hi] at h3 h4
    simp only [pk, wd]
    omega

theorem walk_zipT {K : PySem.W.Frag} {a b : Addr} {xs ys : List V} {n : Nat} (e : n = min xs.length ys.length) : Walk (RZ.ItzT K a b) n (fun H => SqT K H a xs ∧ SqT K H b ys)
    (fun i H v H' => ∃ (T : Addr) (x y : V), v = .ref T ∧ H T = none ∧ H' = upd H T (.tup [x, y]) ∧ xs[i]? = some x ∧ ys[i]? = some y) := by
  constructor
  · intro i H hi q
    exact ⟨xs, ys, xs[i]'(by omega), ys[i]'(by omega), q.1, q.2, List.getElem?_eq_getElem _, List.getElem?_eq_getElem _⟩
  · intro H q
    exact ⟨xs, ys, q.1, q.2, by omega⟩
  · rintro i H v H' hi q ⟨T, x, y, h1, h2, h3, h4, h5⟩
    exact ⟨T, x, y, h1, h2, h3, h4 xs q.1, h5 ys q.2⟩
section
variable {P : Program} {w : World} {K : PySem.W.Frag} {mg : Str → Option Value} {base : Heap}
theorem form_at (T : Top P w K mg) {at_ : Nat} (h : at_ < 18) : ∃ t, KDct K w T.p_FORMS (nameOf at_) (.ref t) ∧ PySem.W.nsIn K T.p_FORMS (nameOf at_) = some (some (.ref t)) ∧ ∀ H, SqT K H t ((formOf at_).map fun x => V.str (pn x)) := by
  have mk : ∀ {z : Str} {t : Addr}, PySem.W.nsIn K T.p_FORMS z = some (some (.ref t)) → KDct K w T.p_FORMS z (.ref t) := fun h => ⟨_, _, _, T.kd_FORMS.at_, T.kd_FORMS.lit, h, rfl⟩
  match at_, h with
  | 0, _ => exact ⟨_, mk T.i_FORMS_0, T.i_FORMS_0, T.q_FORMS_0⟩
  | 1, _ => exact ⟨_, mk T.i_FORMS_1, T.i_FORMS_1, T.q_FORMS_1⟩
  | 2, _ => exact ⟨_, mk T.i_FORMS_2, T.i_FORMS_2, T.q_FORMS_2⟩
  | 3, _ => exact ⟨_, mk T.i_FORMS_3, T.i_FORMS_3, T.q_FORMS_3⟩
  | 4, _ => exact ⟨_, mk T.i_FORMS_4, T.i_FORMS_4, T.q_FORMS_4⟩
  | 5, _ => exact ⟨_, mk T.i_FORMS_5, T.i_FORMS_5, T.q_FORMS_5⟩
  | 6, _ => exact ⟨_, mk T.i_FORMS_6, T.i_FORMS_6, T.q_FORMS_6⟩
  | 7, _ => exact ⟨_, mk T.i_FORMS_7, T.i_FORMS_7, T.q_FORMS_7⟩
  | 8, _ => exact ⟨_, mk T.i_FORMS_8, T.i_FORMS_8, T.q_FORMS_8⟩
  | 9, _ => exact ⟨_, mk T.i_FORMS_9, T.i_FORMS_9, T.q_FORMS_9⟩
  | 10, _ => exact ⟨_, mk T.i_FORMS_10, T.i_FORMS_10, T.q_FORMS_10⟩
  | 11, _ => exact ⟨_, mk T.i_FORMS_11, T.i_FORMS_11, T.q_FORMS_11⟩
  | 12, _ => exact ⟨_, mk T.i_FORMS_12, T.i_FORMS_12, T.q_FORMS_12⟩
  | 13, _ => exact ⟨_, mk T.i_FORMS_13, T.i_FORMS_13, T.q_FORMS_13⟩
  | 14, _ => exact ⟨_, mk T.i_FORMS_14, T.i_FORMS_14, T.q_FORMS_14⟩
  | 15, _ => exact ⟨_, mk T.i_FORMS_15, T.i_FORMS_15, T.q_FORMS_15⟩
  | 16, _ => exact ⟨_, mk T.i_FORMS_16, T.i_FORMS_16, T.q_FORMS_16⟩
  | 17, _ => exact ⟨_, mk T.i_FORMS_17, T.i_FORMS_17, T.q_FORMS_17⟩
  | n + 18, h => exact absurd h (by omega)
theorem form_no (T : Top P w K mg) {at_ : Nat} (h : ¬ at_ < 18) (h2 : at_ < 20) : PySem.W.nsIn K T.p_FORMS (nameOf at_) = some none := by
  have : at_ = 18 ∨ at_ = 19 := by omega
  rcases this with rfl | rfl
  · exact T.x_FORMS_0
  · exact T.x_FORMS_1
theorem range_at (T : Top P w K mg) {x : Prt} (h : x ≠ .k) : ∃ t, KDct K w T.p_RANGES (pn x) (.ref t) ∧ ∀ H, SqT K H t [.int (lo x), .int (hi x)] := by
  have mk : ∀ {z : Str} {t : Addr}, PySem.W.nsIn K T.p_RANGES z = some (some (.ref t)) → KDct K w T.p_RANGES z (.ref t) := fun h => ⟨_, _, _, T.kd_RANGES.at_, T.kd_RANGES.lit, h, rfl⟩
  cases x with
  | k => exact absurd rfl h
  | r => exact ⟨_, mk T.i_RANGES_0, T.q_RANGES_0⟩
  | s => exact ⟨_, mk T.i_RANGES_1, T.q_RANGES_1⟩
  | t => exact ⟨_, mk T.i_RANGES_2, T.q_RANGES_2⟩
  | sg => exact ⟨_, mk T.i_RANGES_3, T.q_RANGES_3⟩
  | up => exact ⟨_, mk T.i_RANGES_4, T.q_RANGES_4⟩
  | a => exact ⟨_, mk T.i_RANGES_5, T.q_RANGES_5⟩
  | ce => exact ⟨_, mk T.i_RANGES_6, T.q_RANGES_6⟩
  | c => exact ⟨_, mk T.i_RANGES_7, T.q_RANGES_7⟩
  | ro => exact ⟨_, mk T.i_RANGES_8, T.q_RANGES_8⟩
  | p => exact ⟨_, mk T.i_RANGES_9, T.q_RANGES_9⟩
  | o => exact ⟨_, mk T.i_RANGES_10, T.q_RANGES_10⟩
  | q => exact ⟨_, mk T.i_RANGES_11, T.q_RANGES_11⟩
theorem bits_at (T : Top P w K mg) (x : Prt) : ∃ t, KDct K w T.p_BITS (pn x) (.ref t) ∧ ∀ H, SqT K H t [.int (sh x), .int (wd x)] := by
  have mk : ∀ {z : Str} {t : Addr}, PySem.W.nsIn K T.p_BITS z = some (some (.ref t)) → KDct K w T.p_BITS z (.ref t) := fun h => ⟨_, _, _, T.kd_BITS.at_, T.kd_BITS.lit, h, rfl⟩
  cases x with
  | r => exact ⟨_, mk T.i_BITS_0, T.q_BITS_0⟩
  | s => exact ⟨_, mk T.i_BITS_1, T.q_BITS_1⟩
  | t => exact ⟨_, mk T.i_BITS_2, T.q_BITS_2⟩
  | k => exact ⟨_, mk T.i_BITS_3, T.q_BITS_3⟩
  | sg => exact ⟨_, mk T.i_BITS_4, T.q_BITS_4⟩
  | up => exact ⟨_, mk T.i_BITS_5, T.q_BITS_5⟩
  | a => exact ⟨_, mk T.i_BITS_6, T.q_BITS_6⟩
  | ce => exact ⟨_, mk T.i_BITS_7, T.q_BITS_7⟩
  | c => exact ⟨_, mk T.i_BITS_8, T.q_BITS_8⟩
  | ro => exact ⟨_, mk T.i_BITS_9, T.q_BITS_9⟩
  | p => exact ⟨_, mk T.i_BITS_10, T.q_BITS_10⟩
  | o => exact ⟨_, mk T.i_BITS_11, T.q_BITS_11⟩
  | q => exact ⟨_, mk T.i_BITS_12, T.q_BITS_12⟩
theorem str_eqd {a b : Str} : decide (V.str a = V.str b) = decide (a = b) := by
  by_cases h : a = b
  · rw [h, decide_eq_true rfl, decide_eq_true rfl]
  · rw [decide_eq_false h, decide_eq_false (fun q => h (V.str.inj q))]
theorem pn_inj : ∀ {x y : Prt}, pn x = pn y → x = y := fun {x y} h => by
  cases x <;> cases y <;> first | rfl | exact absurd h (by decide +kernel)
def sp__in_range : Sp := fun vs H Q _ => ∃ (x : Prt) (v : V), vs = [.str (pn x), v] ∧ Itm v ∧ Q (.bl (inR x v)) H
theorem ok__in_range (T : Top P w K mg) : FnOk P w K mg base CX0 1 T.a__in_range T.d__in_range ["part", "value"]  sp__in_range := by
  refine T.F__in_range.ok sc__in_range (fun vs H Q E h => ?_) (fun cdv A outer s H vs Q E hr h => ?_)
  · obtain ⟨_, _, rfl, _⟩ := h
    rfl
  · obtain ⟨x, v, rfl, hv, q⟩ := h
    refine ⟨_, (pss_cons (ps_if (pt_cmpR op_eq (pv 0) pe_str (nomark _))
  (pss_one (ps_ret (pe_cmpR op_in_seq (pv 1) (pe_gr (by rfl) T.c_CALCULATIONS) (by with_unfolding_all rfl))))
  pss_nil)
  (pss_cons (ps_asg (pe_ix ix_kdict (pe_gr (by rfl) T.c_RANGES) (pv 0) (fun _ _ => rfl)) (pg_tup rfl (pgs_cons (pg_name (i := 2) sc__in_range.nd rfl (by first | exact Or.inl rfl | exact Or.inr rfl)) (pgs_cons (pg_name (i := 3) sc__in_range.nd rfl (by first | exact Or.inl rfl | exact Or.inr rfl)) pgs_nil))))
  (pss_one (ps_ret (pe_and (pe_callB call_isi (by rfl) T.m_isinstance (by decide +kernel) (pa_cons (pv 1) (pa_cons (pe_ty (T := "int") (by rfl) T.m_int (by decide +kernel)) pa_nil))) (pe_one (pe_chain op_le op_le (pv 2) (pv 1) (pv 3)))))))), ?_⟩
    refine ⟨_, rfl, rfl, _, rfl, ite2 (fun c => ?_) (fun c => ?_)⟩
    · have hx : x = .k := pn_inj (V.str.inj (of_decide_eq_true c))
      subst hx
      rw [inR_k hv] at q
      exact ⟨_, rfl, T.p_CALCULATIONS, CALC.map V.str, rfl, .inr (T.q_CALCULATIONS _), hv.flat, by decide +kernel, q⟩
    · have hx : x ≠ .k := fun e => c (by rw [e]; exact decide_eq_true rfl)
      obtain ⟨t, kd, ht⟩ := range_at T hx
      refine ⟨_, rfl, T.p_RANGES, pn x, _, rfl, rfl, kd, t, _, rfl, ht _, rfl, _, _, rfl, _, _, rfl, rfl, ?_⟩
      rcases hv with ⟨n, rfl⟩ | ⟨z, rfl⟩
      · rw [inR_x hx] at q
        refine ⟨_, rfl, _, _, _, _, true, rfl, .ty _, .base (.int _), kit_ty (by decide +kernel), true, rfl, ?_⟩
        refine ⟨_, rfl, _, rfl, _, _, rfl, rfl, _, rfl, ite2 (fun c1 => ?_) (fun c1 => ?_)⟩
        · rw [c1] at q
          exact ⟨_, rfl, _, _, rfl, rfl, q⟩
        · rw [eq_false_of_ne_true c1] at q
          exact q
      · rw [inR_s hx] at q
        exact ⟨_, rfl, _, _, _, _, false, rfl, .ty _, .base (.str _), kit_ty (by decide +kernel), false, rfl, q⟩
end

section
variable {P : Program} {w : World} {K : PySem.W.Frag} {mg : Str → Option Value} {base : Heap}
theorem cut1 {x : V} {xs : List V} : cutV (x :: xs) (some 1) none = xs := by
  unfold cutV
  have e1 : HT.sIx (x :: xs).length 0 (some 1) = 1 := by
    simp [HT.sIx]
  have e2 : HT.sIx (x :: xs).length (x :: xs).length none = (x :: xs).length := rfl
  rw [e1, e2]
  simp
theorem cut1_no {x : V} {xs : List V} : ¬ (HT.sIx (x :: xs).length 0 (some 1) = 0 ∧ HT.sIx (x :: xs).length (x :: xs).length none = (x :: xs).length) := by
  rintro ⟨h, _⟩
  simp [HT.sIx] at h
theorem zip_at {α β : Type} {xs : List α} {ys : List β} {i : Nat} {x : α} {y : β} (h1 : xs[i]? = some x) (h2 : ys[i]? = some y) : (xs.zip ys)[i]? = some (x, y) := by
  rw [List.getElem?_zip_eq_some]
  exact ⟨h1, h2⟩
theorem form_short (at_ : Nat) : (formOf at_).length ≤ 4 := by
  by_cases h : at_ < 20
  · have : ∀ i : Fin 20, (formOf i.val).length ≤ 4 := by decide +kernel
    exact this ⟨at_, h⟩
  · have : formOf at_ = [] := by
      unfold formOf formL
      rw [List.getD_eq_getElem?_getD, List.getElem?_eq_none (by simp; omega)]
      rfl
    rw [this]
    decide
def sp_is_instruction (K : PySem.W.Frag) : Sp := fun vs H Q _ => ∃ (t : Addr) (xs : List V), vs = [.ref t] ∧ SqT K H t xs ∧ ((xs = [] ∧ Q (.bl false) H) ∨ ∃ (at_ : Nat) (items : List V), xs = .str (nameOf at_) :: items ∧ at_ < 20 ∧ (∀ v ∈ items, Itm v) ∧ items.length ≤ 10 ∧ ∀ H', Same H H' → Q (.bl (insOk at_ items)) H')
theorem no_ce {at_ : Nat} (h : at_ < 18) : inV (.str "cells") ((formOf at_).map fun x => V.str (pn x)) = (decide (at_ = 5) || decide (at_ = 6)) := by
  have : ∀ i : Fin 18, inV (.str "cells") ((formOf i.val).map fun x => V.str (pn x)) = (decide (i.val = 5) || decide (i.val = 6)) := by decide +kernel
  exact this ⟨at_, h⟩
theorem ok_is_instruction (T : Top P w K mg) : FnOk P w K mg base CX0 2 T.a_is_instruction T.d_is_instruction ["item"]  (sp_is_instruction K) := by
  refine T.F_is_instruction.ok sc_is_instruction (fun vs H Q E h => ?_) (fun cdv A outer s H vs Q E hr h => ?_)
  · obtain ⟨_, _, rfl, _⟩ := h
    rfl
  · obtain ⟨t, xs, rfl, hT, hh⟩ := h
    refine ⟨_, (pss_cons (ps_if (pw_or (pt_cmpR op_eq (pe_callB call_len_seq (by rfl) T.m_len PySem.boot_len (pa_cons (pv 0) pa_nil)) pe_int (nomark _)) (pw_or1 (pt_cmpR (op_notIn_kd T.kd_FORMS) (pe_ix ix_tup (pv 0) pe_int (fun _ _ => rfl)) (pe_gr (by rfl) T.c_FORMS) (by with_unfolding_all rfl)))).pt
  (pss_one (ps_ret pe_bl))
  pss_nil)
  (pss_cons (ps_set (i := 1) sc_is_instruction.nd rfl (by first | exact Or.inl rfl | exact Or.inr rfl) (pe_ix ix_kdict (pe_gr (by rfl) T.c_FORMS) (pe_ix ix_tup (pv 0) pe_int (fun _ _ => rfl)) (fun _ _ => rfl)))
  (pss_cons (ps_if (pt_cmpR op_ne (pe_callB call_len_seq (by rfl) T.m_len PySem.boot_len (pa_cons (pv 0) pa_nil)) (pe_op op_add (pe_callB call_len_seq (by rfl) T.m_len PySem.boot_len (pa_cons (pv 1) pa_nil)) pe_int) (nomark _))
  (pss_one (ps_ret pe_bl))
  pss_nil)
  (pss_cons (ps_if (pt_not (pt_val (pe_callB (cr_all rfl) (by rfl) T.m_all (by decide +kernel) (pa_cons (pe_lc (own := [("part", 2), ("value", 3)]) (g := (gTup K 2 (gCons (gName 2) (gCons (gName 3) gNil)))) (tt := tYes) rfl sc_is_instruction.nd (RZ.pi_zipA (by rfl) T.m_zip (pa_cons (pv 1) (pa_cons (pe_slice sl_tup (pv 0) (po_some pe_int) po_none) pa_nil))) (blkOk_by (N := ["item", "form", "part", "value"]) (sc := defScope s_is_instruction) (by decide +kernel)) (fun _ _ _ _ _ => (pg_tup rfl (pgs_cons (pg_name (i := 2) sc_is_instruction.nd rfl (Or.inl rfl)) (pgs_cons (pg_name (i := 3) sc_is_instruction.nd rfl (Or.inl rfl)) pgs_nil)))) (fun _ _ _ _ _ => pts_nil) (fun _ _ _ _ _ => (pe_call (ok__in_range T) (hr.mono (by decide)) (by rfl) T.g__in_range T.F__in_range.kp T.b__in_range .nil pass0 (pa_cons (pv 2) (pa_cons (pv 3) pa_nil))))) pa_nil))))
  (pss_one (ps_ret pe_bl))
  pss_nil)
  (pss_one (ps_ret (pe_or (pe_cmpR op_notIn_seq pe_str (pv 1) (by with_unfolding_all rfl)) (pe_one (pe_cmpR op_le (pe_op op_add (pe_ix ix_tup (pv 0) pe_int (fun _ _ => rfl)) (pe_ix ix_tup (pv 0) pe_int (fun _ _ => rfl))) (pe_gi (by rfl) T.c_DATA_WORDS) (nomark _)))))))))), ?_⟩
    rcases hh with ⟨rfl, q⟩ | ⟨at_, items, rfl, h20, hI, hl, q⟩
    · exact if_or (a := true) (b := true) (fun Q' q' => ⟨_, rfl, t, _, rfl, .inr hT, rfl, _, rfl, q'⟩) (fun e => Bool.noConfusion e) (iteT q)
    have nz : decide (V.int (((V.str (nameOf at_) :: items).length : Nat) : Int) = V.int 0) = false := decide_eq_false (fun e => by
      have := V.int.inj e
      simp at this
      omega)
    by_cases h18 : at_ < 18
    · obtain ⟨tf, kd, nsf, hF⟩ := form_at T h18
      refine if_or (a := false) (b := false) (fun Q' q' => ⟨_, rfl, t, _, rfl, .inr hT, rfl, _, rfl, by rw [nz]; exact q'⟩) (fun _ Q' q' => ⟨_, rfl, t, _, 0, .str (nameOf at_), rfl, rfl, hT, atI_nat (j := 0) rfl, _, _, rfl, rfl, nsf, _, rfl, q'⟩) (iteF ?_)
      refine ⟨_, rfl, t, _, 0, .str (nameOf at_), rfl, rfl, hT, atI_nat (j := 0) rfl, T.p_FORMS, nameOf at_, _, rfl, rfl, kd, ?_⟩
      refine ⟨_, rfl, t, _, rfl, .inr hT, _, rfl, tf, _, rfl, .inr (hF _), _, _, rfl, rfl, rfl, _, rfl, ite2 (fun c => ?_) (fun c => ?_)⟩
      · -- another number of items
        have e : insOk at_ items = false := by
          unfold insOk
          have n : ¬ items.length = (formOf at_).length := fun e => by
            rw [decide_eq_true (show V.int (((V.str (nameOf at_) :: items).length : Nat) : Int) = V.int ((((formOf at_).map fun x => V.str (pn x)).length : Nat) + 1 : Int) from by
              rw [List.length_map, List.length_cons, e]
              rfl)] at c
            cases c
          rw [decide_eq_false n, Bool.false_and, Bool.and_false]
        have := q H (Same.refl _)
        rw [e] at this
        exact this
      · have el : items.length = (formOf at_).length := by
          have := V.int.inj (Decidable.of_not_not (fun n => c (by rw [decide_eq_false n]; rfl)))
          rw [List.length_map, List.length_cons] at this
          omega
        -- all(..)
        refine ⟨_, rfl, _, rfl, _, rfl, t, _, rfl, hT, cut1_no, fun u nu => ?_⟩
        rw [cut1]
        have sm1 : Same H (upd H u (.tup items)) := same_new nu
        refine ⟨tf, u, _, _, rfl, .inr ⟨hF _, SqT.of upd_same, fun D nD => ?_⟩⟩
        refine lc_it (walk_zipT (xs := (formOf at_).map fun x => V.str (pn x)) (ys := items) (n := (formOf at_).length) (by rw [List.length_map, el, Nat.min_self])) (fun i H' => H' D = some (.lst (((((formOf at_).zip items).take i).map fun p => inR p.1 p.2).map V.bl)) ∧ Same (upd H u (.tup items)) H')
          ⟨upd_same, same_new nD⟩ (fun i H' _ h => ⟨hF _, SqT.of (h.2 _ _ upd_same)⟩) ?_ ?_
        · rintro i x H1 H' hi ⟨hD, sm⟩ ⟨Tt, a, b, rfl, nT, rfl, ha, hb⟩
          obtain ⟨x, hx, rfl⟩ : ∃ x, (formOf at_)[i]? = some x ∧ V.str (pn x) = a := by
            rw [List.getElem?_map] at ha
            cases e : (formOf at_)[i]? with
            | none => rw [e] at ha; cases ha
            | some x => rw [e] at ha; exact ⟨x, rfl, Option.some.inj ha⟩
          have DT : D ≠ Tt := ne_of_none hD nT
          refine ⟨Tt, _, rfl, SqT.of upd_same, rfl, _, _, rfl, _, _, rfl, rfl, rfl, ?_⟩
          refine ⟨_, rfl, _, rfl, x, b, rfl, hI b (List.mem_of_getElem? hb), ?_⟩
          refine ⟨_, by rw [upd_ne DT]; exact hD, ?_, ?_, ?_⟩
          · have := form_short at_
            have := List.length_take_le i ((formOf at_).zip items)
            have h3 : (((formOf at_).zip items).take i).length ≤ i := this
            rw [List.length_map, List.length_map]
            exact small1000 (by omega)
          · rw [upd_same, List.take_add_one, zip_at hx hb, List.map_append, List.map_append]
            rfl
          · intro c o e
            have cD : c ≠ D := ne_of_none e nD
            rw [upd_ne cD, upd_ne (ne_of_none (sm c o e) nT)]
            exact sm c o e
        · rintro H' ⟨hD, sm⟩
          rw [List.take_of_length_le (by rw [List.length_zip, el, Nat.min_self]; exact Nat.le_refl _)] at hD
          refine ⟨D, ((formOf at_).zip items).map (fun p => inR p.1 p.2), rfl, SqL.of hD, _, rfl, ?_⟩
          have ea : (((formOf at_).zip items).map (fun p => inR p.1 p.2)).all id = allR at_ items := by
            rw [List.all_map]
            rfl
          rw [ea]
          have sm3 : Same H H' := sm1.trans sm
          cases e : allR at_ items with
          | false =>
            refine iteT ?_
            have e2 : insOk at_ items = false := by
              unfold insOk
              rw [e, Bool.false_and, Bool.and_false, Bool.and_false]
            have := q H' sm3
            rw [e2] at this
            exact this
          | true =>
            refine iteF ?_
            refine ⟨_, rfl, tf, _, rfl, .inr (hF _), rfl, ?_, ?_⟩
            · have : ∀ i : Fin 18, ((formOf i.val).map fun x => V.str (pn x)).all flatV = true := by decide +kernel
              exact this ⟨at_, h18⟩
            have q2 := q H' sm3
            unfold insOk at q2
            rw [decide_eq_true h18, decide_eq_true el, e, Bool.true_and, Bool.true_and, Bool.true_and] at q2
            refine ⟨!(decide (at_ = 5) || decide (at_ = 6)), ?_, ?_⟩
            · show V.bl (!inV _ _) = _
              rw [no_ce h18]
            by_cases h56 : at_ = 5 ∨ at_ = 6
            · have eb : (decide (at_ = 5) || decide (at_ = 6)) = true := by
                rcases h56 with h | h <;> simp [h]
              rw [eb] at q2 ⊢
              obtain ⟨v0, v1, x, y, rfl⟩ : ∃ v0 v1 x y, items = [v0, v1, .int x, .int y] := by
                have ef : formOf at_ = [.r, .s, .a, .ce] := by rcases h56 with rfl | rfl <;> rfl
                rw [ef] at el
                unfold allR at e
                rw [ef] at e
                match items, el with
                | [v0, v1, v2, v3], _ =>
                  simp only [List.zip_cons_cons, List.all_cons, Bool.and_eq_true] at e
                  obtain ⟨_, _, h2, h3, _⟩ := e
                  cases v2 <;> first | exact absurd h2 Bool.false_ne_true | skip
                  cases v3 <;> first | exact absurd h3 Bool.false_ne_true | skip
                  exact ⟨_, _, _, _, rfl⟩
              have hT2 := Same.seqT sm3 hT
              exact ⟨_, rfl, t, _, 3, .int x, rfl, rfl, hT2, atI_nat (j := 3) rfl, _, rfl, t, _, 4, .int y, rfl, rfl, hT2, atI_nat (j := 4) rfl, _, _, rfl, rfl, _, _, rfl, rfl, q2⟩
            · have eb : (decide (at_ = 5) || decide (at_ = 6)) = false := by
                rw [not_or] at h56
                simp [h56.1, h56.2]
              rw [eb] at q2 ⊢
              exact q2
    · refine if_or (a := false) (b := true) (fun Q' q' => ⟨_, rfl, t, _, rfl, .inr hT, rfl, _, rfl, by rw [nz]; exact q'⟩) (fun _ Q' q' => ⟨_, rfl, t, _, 0, .str (nameOf at_), rfl, rfl, hT, atI_nat (j := 0) rfl, _, _, rfl, rfl, form_no T h18 h20, _, rfl, q'⟩) (iteT ?_)
      have e : insOk at_ items = false := by
        unfold insOk
        rw [decide_eq_false h18, Bool.false_and]
      have := q H (Same.refl _)
      rw [e] at this
      exact this
end

theorem bitAnd_low (n : Int) (k : Nat) : Builtin.bitAnd n (2 ^ k - 1) = n % 2 ^ k := by
  by_cases h : 0 ≤ n
  · exact Bits.bitAnd_mask k h
  · obtain ⟨M, eM, hM⟩ : ∃ M : Int, (2 : Int) ^ k = M ∧ 0 < M := ⟨_, rfl, Int.pow_pos (by decide)⟩
    have hy : (0 : Int) ≤ 2 ^ k - 1 := by omega
    have hm : 0 ≤ Builtin.bitNot n := by
      show 0 ≤ -n - 1
      omega
    rw [PyProof.Rows.bitAnd_np h hy, ← PyProof.Rows.bitAnd_pp hy hm, PyProof.Rows.bitAnd_comm, Bits.bitAnd_mask k hm, eM]
    have e : Builtin.bitNot n = (M - 1 - n % M) + M * (-(n / M) - 1) := by
      show -n - 1 = _
      have := Int.emod_add_mul_ediv n M
      rw [Int.mul_sub, Int.mul_neg]
      omega
    have h0 := Int.emod_nonneg n (show M ≠ 0 by omega)
    have h1 := Int.emod_lt_of_pos n hM
    rw [e, Int.add_mul_emod_self_left, Int.emod_eq_of_lt (by omega) (by omega)]
    omega
section
variable {P : Program} {w : World} {K : PySem.W.Frag} {mg : Str → Option Value} {base : Heap}
def sp__packed : Sp := fun vs H Q _ => ∃ (x : Prt) (v : V), vs = [.str (pn x), v] ∧ inR x v = true ∧ Q (.int (pk x v)) H
theorem inR_int {x : Prt} {v : V} (hx : x ≠ .k) (h : inR x v = true) : ∃ n, v = .int n := by
  cases v <;> first | exact ⟨_, rfl⟩ | (exfalso; cases x <;> first | exact hx rfl | exact absurd h Bool.false_ne_true)
theorem inR_str {v : V} (h : inR .k v = true) : ∃ z, v = .str z ∧ z ∈ CALC := by
  cases v <;> first | exact ⟨_, rfl, of_decide_eq_true h⟩ | exact absurd h Bool.false_ne_true
theorem ok__packed (T : Top P w K mg) : FnOk P w K mg base CX0 1 T.a__packed T.d__packed ["part", "value"]  sp__packed := by
  refine T.F__packed.ok sc__packed (fun vs H Q E h => ?_) (fun cdv A outer s H vs Q E hr h => ?_)
  · obtain ⟨_, _, rfl, _⟩ := h
    rfl
  · obtain ⟨x, v, rfl, hv, q⟩ := h
    refine ⟨_, (pss_cons (ps_if (pt_cmpR op_eq (pv 0) pe_str (nomark _))
  (pss_one (ps_ret (pe_bm PySem.F.plainAttrs_tuple PySem.F.slot_tuple_index PySem.F.type_tuple_index mt_tup_index (pe_gr (by rfl) T.c_CALCULATIONS) (pa_cons (pv 1) pa_nil))))
  pss_nil)
  (pss_cons (ps_if (pt_cmpR op_eq (pv 0) pe_str (nomark _))
  (pss_one (ps_ret (pe_op op_and (pv 1) (pe_op op_sub (pe_gi (by rfl) T.c_SIGNED_VALUES) pe_int))))
  pss_nil)
  (pss_cons (ps_if (pw_or (pt_cmpR op_eq (pv 0) pe_str (nomark _)) (pw_or1 (pt_cmpR op_eq (pv 0) pe_str (nomark _)))).pt
  (pss_one (ps_ret (pe_op op_sub (pv 1) pe_int)))
  pss_nil)
  (pss_one (ps_ret (pv 1)))))), ?_⟩
    refine ⟨_, rfl, rfl, _, rfl, ite2 (fun c => ?_) (fun c => ?_)⟩
    · have hx : x = .k := pn_inj (V.str.inj (of_decide_eq_true c))
      subst hx
      obtain ⟨z, rfl, hz⟩ := inR_str hv
      obtain ⟨j, hj, h1, h2, h3⟩ := calc_idx hz
      refine ⟨.inr (.inl ⟨rfl, T.l_CALCULATIONS⟩), _, rfl, T.p_CALCULATIONS, CALC, z, j, rfl, rfl, T.q_CALCULATIONS _, h1, h2, ?_⟩
      have e : pk .k (.str z) = (j : Int) := by
        show (CALC.idxOf z : Int) = _
        rw [h3]
      rw [e] at q
      exact q
    have hk : x ≠ .k := fun e => c (by rw [e]; exact decide_eq_true rfl)
    obtain ⟨n, rfl⟩ := inR_int hk hv
    refine ⟨_, rfl, rfl, _, rfl, ite2 (fun c2 => ?_) (fun c2 => ?_)⟩
    · have hx : x = .sg := pn_inj (V.str.inj (of_decide_eq_true c2))
      subst hx
      refine ⟨_, rfl, _, _, rfl, rfl, _, _, rfl, rfl, ?_⟩
      show Q (V.int (Builtin.bitAnd n (65536 - 1))) H
      rw [show Builtin.bitAnd n (65536 - 1) = n % 65536 from bitAnd_low n 16]
      exact q
    have hs : x ≠ .sg := fun e => c2 (by rw [e]; exact decide_eq_true rfl)
    dsimp only [tNext, tSeq]
    refine if_or (a := decide (x = .ce)) (b := decide (x = .ro)) (fun Q' q' => ⟨_, rfl, rfl, _, rfl, ?_⟩) (fun _ Q' q' => ⟨_, rfl, rfl, _, rfl, ?_⟩) (ite2 (fun c3 => ?_) (fun c3 => ?_))
    · have e : decide (V.str (pn x) = V.str "cells") = decide (x = .ce) := by
        rw [str_eqd]
        exact decide_eq_decide.mpr ⟨fun h => pn_inj (y := .ce) h, fun h => by rw [h]; rfl⟩
      rw [e]
      exact q'
    · have e : decide (V.str (pn x) = V.str "rounds") = decide (x = .ro) := by
        rw [str_eqd]
        exact decide_eq_decide.mpr ⟨fun h => pn_inj (y := .ro) h, fun h => by rw [h]; rfl⟩
      rw [e]
      exact q'
    · refine ⟨_, rfl, _, _, rfl, rfl, ?_⟩
      rw [Bool.or_eq_true, decide_eq_true_eq, decide_eq_true_eq] at c3
      rcases c3 with rfl | rfl <;> exact q
    · refine ⟨_, rfl, ?_⟩
      rw [Bool.or_eq_true, decide_eq_true_eq, decide_eq_true_eq, not_or] at c3
      have e : pk x (.int n) = n := by
        cases x <;> first | rfl | exact absurd rfl hk | exact absurd rfl hs | exact absurd rfl c3.1 | exact absurd rfl c3.2
      rw [e] at q
      exact q
/-- the item for which a number stands -/
def unp : Prt → Int → V
  | .k, n => .str (CALC.getD n.toNat "")
  | .sg, n => if 32767 < n then .int (n - 65536) else .int n
  | .ce, n => .int (n + 1)
  | .ro, n => .int (n + 1)
  | _, n => .int n
theorem calc_len : CALC.length = 17 := rfl
def sp__unpacked : Sp := fun vs H Q _ => ∃ (x : Prt) (n : Int), vs = [.str (pn x), .int n] ∧ 0 ≤ n ∧ Q (unp x n) H
theorem ok__unpacked (T : Top P w K mg) : FnOk P w K mg base CX0 1 T.a__unpacked T.d__unpacked ["part", "number"]  sp__unpacked := by
  refine T.F__unpacked.ok sc__unpacked (fun vs H Q E h => ?_) (fun cdv A outer s H vs Q E hr h => ?_)
  · obtain ⟨_, _, rfl, _⟩ := h
    rfl
  · obtain ⟨x, n, rfl, hn, q⟩ := h
    refine ⟨_, (pss_cons (ps_if (pt_cmpR op_eq (pv 0) pe_str (nomark _))
  (pss_one (ps_ret (pe_ifExp (pt_cmpR op_lt (pv 1) (pe_callB call_len_seq (by rfl) T.m_len PySem.boot_len (pa_cons (pe_gr (by rfl) T.c_CALCULATIONS) pa_nil)) (nomark _)) (pe_ix ix_tup (pe_gr (by rfl) T.c_CALCULATIONS) (pv 1) (fun _ _ => rfl)) pe_str)))
  pss_nil)
  (pss_cons (ps_if (pw_and (pt_cmpR op_eq (pv 0) pe_str (nomark _)) (pw_and1 (pt_cmpR op_gt (pv 1) (pe_gi (by rfl) T.c_GREATEST_SIGNED) (nomark _)))).pt
  (pss_one (ps_ret (pe_op op_sub (pv 1) (pe_gi (by rfl) T.c_SIGNED_VALUES))))
  pss_nil)
  (pss_cons (ps_if (pw_or (pt_cmpR op_eq (pv 0) pe_str (nomark _)) (pw_or1 (pt_cmpR op_eq (pv 0) pe_str (nomark _)))).pt
  (pss_one (ps_ret (pe_op op_add (pv 1) pe_int)))
  pss_nil)
  (pss_one (ps_ret (pv 1)))))), ?_⟩
    refine ⟨_, rfl, rfl, _, rfl, ite2 (fun c => ?_) (fun c => ?_)⟩
    · have hx : x = .k := pn_inj (V.str.inj (of_decide_eq_true c))
      subst hx
      refine ⟨_, rfl, T.p_CALCULATIONS, CALC.map V.str, rfl, .inr (T.q_CALCULATIONS _), _, _, rfl, rfl, _, rfl, ite2 (fun c1 => ?_) (fun c1 => ?_)⟩
      · have h1 := of_decide_eq_true c1
        rw [List.length_map, calc_len] at h1
        have h2 : n.toNat < CALC.length := by rw [calc_len]; omega
        refine ⟨_, rfl, T.p_CALCULATIONS, CALC.map V.str, n, .str (CALC.getD n.toNat ""), rfl, rfl, T.q_CALCULATIONS _, at_of (j := n.toNat) (by omega) ?_, q⟩
        rw [List.getElem?_map, List.getD_eq_getElem?_getD, List.getElem?_eq_getElem h2]
        rfl
      · have h1 : ¬ n < 17 := fun h => c1 (decide_eq_true (by rw [List.length_map, calc_len]; exact h))
        have e : unp .k n = .str "" := by
          show V.str (CALC.getD n.toNat "") = _
          rw [List.getD_eq_getElem?_getD, List.getElem?_eq_none (by rw [calc_len]; omega)]
          rfl
        rw [e] at q
        exact q
    have hk : x ≠ .k := fun e => c (by rw [e]; exact decide_eq_true rfl)
    dsimp only [tNext, tSeq]
    refine if_and (a := decide (x = .sg)) (b := decide (32767 < n)) (fun Q' q' => ⟨_, rfl, rfl, _, rfl, ?_⟩) (fun _ Q' q' => ⟨_, rfl, _, _, rfl, rfl, _, rfl, q'⟩) (ite2 (fun c2 => ?_) (fun c2 => ?_))
    · have e : decide (V.str (pn x) = V.str "signed") = decide (x = .sg) := by
        rw [str_eqd]
        exact decide_eq_decide.mpr ⟨fun h => pn_inj (y := .sg) h, fun h => by rw [h]; rfl⟩
      rw [e]
      exact q'
    · rw [Bool.and_eq_true, decide_eq_true_eq, decide_eq_true_eq] at c2
      obtain ⟨rfl, h2⟩ := c2
      refine ⟨_, rfl, _, _, rfl, rfl, ?_⟩
      have e : unp .sg n = .int (n - 65536) := if_pos h2
      rw [e] at q
      exact q
    dsimp only [tNext, tSeq]
    refine if_or (a := decide (x = .ce)) (b := decide (x = .ro)) (fun Q' q' => ⟨_, rfl, rfl, _, rfl, ?_⟩) (fun _ Q' q' => ⟨_, rfl, rfl, _, rfl, ?_⟩) (ite2 (fun c3 => ?_) (fun c3 => ?_))
    · have e : decide (V.str (pn x) = V.str "cells") = decide (x = .ce) := by
        rw [str_eqd]
        exact decide_eq_decide.mpr ⟨fun h => pn_inj (y := .ce) h, fun h => by rw [h]; rfl⟩
      rw [e]
      exact q'
    · have e : decide (V.str (pn x) = V.str "rounds") = decide (x = .ro) := by
        rw [str_eqd]
        exact decide_eq_decide.mpr ⟨fun h => pn_inj (y := .ro) h, fun h => by rw [h]; rfl⟩
      rw [e]
      exact q'
    · refine ⟨_, rfl, _, _, rfl, rfl, ?_⟩
      rw [Bool.or_eq_true, decide_eq_true_eq, decide_eq_true_eq] at c3
      rcases c3 with rfl | rfl <;> exact q
    · refine ⟨_, rfl, ?_⟩
      rw [Bool.or_eq_true, decide_eq_true_eq, decide_eq_true_eq, not_or] at c3
      have e : unp x n = .int n := by
        cases x <;> first | rfl | exact absurd rfl hk | exact absurd rfl c3.1 | exact absurd rfl c3.2 | skip
        refine if_neg fun h => c2 ?_
        rw [decide_eq_true h]
        rfl
      rw [e] at q
      exact q
def partOf (x : Prt) (wd_ : Int) : V := unp x (wd_ / 2 ^ sh x % 2 ^ wd x)
def sp__part_of : Sp := fun vs H Q _ => ∃ (x : Prt) (n : Int), vs = [.int n, .str (pn x)] ∧ Q (partOf x n) H
theorem ok__part_of (T : Top P w K mg) : FnOk P w K mg base CX0 2 T.a__part_of T.d__part_of ["word", "part"]  sp__part_of := by
  refine T.F__part_of.ok sc__part_of (fun vs H Q E h => ?_) (fun cdv A outer s H vs Q E hr h => ?_)
  · obtain ⟨_, _, rfl, _⟩ := h
    rfl
  · obtain ⟨x, n, rfl, q⟩ := h
    refine ⟨_, (pss_cons (ps_asg (pe_ix ix_kdict (pe_gr (by rfl) T.c_BITS) (pv 1) (fun _ _ => rfl)) (pg_tup rfl (pgs_cons (pg_name (i := 2) sc__part_of.nd rfl (by first | exact Or.inl rfl | exact Or.inr rfl)) (pgs_cons (pg_name (i := 3) sc__part_of.nd rfl (by first | exact Or.inl rfl | exact Or.inr rfl)) pgs_nil))))
  (pss_one (ps_ret (pe_call (ok__unpacked T) (hr.mono (by decide)) (by rfl) T.g__unpacked T.F__unpacked.kp T.b__unpacked .nil pass0 (pa_cons (pv 1) (pa_cons (pe_op op_and (pe_op op_shr (pv 0) (pv 2)) (pe_op op_sub (pe_op op_shl pe_int (pv 3)) pe_int)) pa_nil)))))), ?_⟩
    obtain ⟨t, kd, ht⟩ := bits_at T x
    refine ⟨_, rfl, T.p_BITS, pn x, _, rfl, rfl, kd, t, _, rfl, ht _, rfl, _, _, rfl, _, _, rfl, rfl, ?_⟩
    have hw : wd x ≤ 16 := by cases x <;> decide
    refine ⟨_, rfl, _, rfl, _, rfl, _, _, rfl, rfl, Int.natCast_nonneg _, _, rfl, _, _, rfl, rfl, ⟨Int.natCast_nonneg _, by omega, by decide⟩, _, _, rfl, rfl, _, _, rfl, rfl, x, _, rfl, ?_, ?_⟩
    · show 0 ≤ Builtin.bitAnd (n / 2 ^ (sh x : Int).toNat) (1 * 2 ^ (wd x : Int).toNat - 1)
      rw [Int.one_mul, Int.toNat_natCast, bitAnd_low]
      exact Int.emod_nonneg _ (Int.ne_of_gt (Int.pow_pos (by decide)))
    · show Q (unp x (Builtin.bitAnd (n / 2 ^ (sh x : Int).toNat) (1 * 2 ^ (wd x : Int).toNat - 1))) H
      rw [Int.one_mul, Int.toNat_natCast, Int.toNat_natCast, bitAnd_low]
      exact q
end

/-! ### what stands in a code word -/
theorem unp_pk {x : Prt} {v : V} (h : inR x v = true) : unp x (pk x v) = v := by
  by_cases hk : x = .k
  · subst hk
    obtain ⟨z, rfl, hz⟩ := inR_str h
    obtain ⟨j, hj, h1, _, h3⟩ := calc_idx hz
    show V.str (CALC.getD (CALC.idxOf z : Int).toNat "") = _
    rw [h3, Int.toNat_natCast, List.getD_eq_getElem?_getD, h1]
    rfl
  · obtain ⟨n, rfl⟩ := inR_int hk h
    rw [inR_x hk, Bool.and_eq_true, decide_eq_true_eq, decide_eq_true_eq] at h
    obtain ⟨h1, h2⟩ := h
    cases x <;> first | exact absurd rfl hk | rfl | skip
    all_goals simp only [lo, hi] at h1 h2
    case sg =>
      show (if 32767 < n % 65536 then V.int (n % 65536 - 65536) else V.int (n % 65536)) = _
      split
      · congr 1
        omega
      · congr 1
        omega
    all_goals
      show V.int (n - 1 + 1) = _
      congr 1
      omega
theorem dec_r_sg {b w_ : Int} {v0 v1 : V} (h0 : inR .r v0 = true) (h1 : inR .sg v1 = true) (e : w_ = b * 1073741824 + pk .r v0 * 2 ^ sh .r + pk .sg v1 * 2 ^ sh .sg) : w_ / 1073741824 = b ∧ partOf .r w_ = v0 ∧ partOf .sg w_ = v1 := by
  have b0 := pk_fits h0
  have b1 := pk_fits h1
  have u0 := unp_pk h0
  have u1 := unp_pk h1
  obtain ⟨p0, ep0⟩ : ∃ p : Int, pk .r v0 = p := ⟨_, rfl⟩
  rw [ep0] at e b0 u0
  obtain ⟨p1, ep1⟩ : ∃ p : Int, pk .sg v1 = p := ⟨_, rfl⟩
  rw [ep1] at e b1 u1
  simp only [sh, wd] at e b0 b1
  refine ⟨by omega, ?_, ?_⟩
  · show unp .r (w_ / 2 ^ sh .r % 2 ^ wd .r) = _
    rw [show w_ / 2 ^ sh .r % 2 ^ wd .r = p0 from by simp only [sh, wd]; omega]
    exact u0
  · show unp .sg (w_ / 2 ^ sh .sg % 2 ^ wd .sg) = _
    rw [show w_ / 2 ^ sh .sg % 2 ^ wd .sg = p1 from by simp only [sh, wd]; omega]
    exact u1
theorem dec_r_up {b w_ : Int} {v0 v1 : V} (h0 : inR .r v0 = true) (h1 : inR .up v1 = true) (e : w_ = b * 1073741824 + pk .r v0 * 2 ^ sh .r + pk .up v1 * 2 ^ sh .up) : w_ / 1073741824 = b ∧ partOf .r w_ = v0 ∧ partOf .up w_ = v1 := by
  have b0 := pk_fits h0
  have b1 := pk_fits h1
  have u0 := unp_pk h0
  have u1 := unp_pk h1
  obtain ⟨p0, ep0⟩ : ∃ p : Int, pk .r v0 = p := ⟨_, rfl⟩
  rw [ep0] at e b0 u0
  obtain ⟨p1, ep1⟩ : ∃ p : Int, pk .up v1 = p := ⟨_, rfl⟩
  rw [ep1] at e b1 u1
  simp only [sh, wd] at e b0 b1
  refine ⟨by omega, ?_, ?_⟩
  · show unp .r (w_ / 2 ^ sh .r % 2 ^ wd .r) = _
    rw [show w_ / 2 ^ sh .r % 2 ^ wd .r = p0 from by simp only [sh, wd]; omega]
    exact u0
  · show unp .up (w_ / 2 ^ sh .up % 2 ^ wd .up) = _
    rw [show w_ / 2 ^ sh .up % 2 ^ wd .up = p1 from by simp only [sh, wd]; omega]
    exact u1
theorem dec_k_r_s_t {b w_ : Int} {v0 v1 v2 v3 : V} (h0 : inR .k v0 = true) (h1 : inR .r v1 = true) (h2 : inR .s v2 = true) (h3 : inR .t v3 = true) (e : w_ = b * 1073741824 + pk .k v0 * 2 ^ sh .k + pk .r v1 * 2 ^ sh .r + pk .s v2 * 2 ^ sh .s + pk .t v3 * 2 ^ sh .t) : w_ / 1073741824 = b ∧ partOf .k w_ = v0 ∧ partOf .r w_ = v1 ∧ partOf .s w_ = v2 ∧ partOf .t w_ = v3 := by
  have b0 := pk_fits h0
  have b1 := pk_fits h1
  have b2 := pk_fits h2
  have b3 := pk_fits h3
  have u0 := unp_pk h0
  have u1 := unp_pk h1
  have u2 := unp_pk h2
  have u3 := unp_pk h3
  obtain ⟨p0, ep0⟩ : ∃ p : Int, pk .k v0 = p := ⟨_, rfl⟩
  rw [ep0] at e b0 u0
  obtain ⟨p1, ep1⟩ : ∃ p : Int, pk .r v1 = p := ⟨_, rfl⟩
  rw [ep1] at e b1 u1
  obtain ⟨p2, ep2⟩ : ∃ p : Int, pk .s v2 = p := ⟨_, rfl⟩
  rw [ep2] at e b2 u2
  obtain ⟨p3, ep3⟩ : ∃ p : Int, pk .t v3 = p := ⟨_, rfl⟩
  rw [ep3] at e b3 u3
  simp only [sh, wd] at e b0 b1 b2 b3
  refine ⟨by omega, ?_, ?_, ?_, ?_⟩
  · show unp .k (w_ / 2 ^ sh .k % 2 ^ wd .k) = _
    rw [show w_ / 2 ^ sh .k % 2 ^ wd .k = p0 from by simp only [sh, wd]; omega]
    exact u0
  · show unp .r (w_ / 2 ^ sh .r % 2 ^ wd .r) = _
    rw [show w_ / 2 ^ sh .r % 2 ^ wd .r = p1 from by simp only [sh, wd]; omega]
    exact u1
  · show unp .s (w_ / 2 ^ sh .s % 2 ^ wd .s) = _
    rw [show w_ / 2 ^ sh .s % 2 ^ wd .s = p2 from by simp only [sh, wd]; omega]
    exact u2
  · show unp .t (w_ / 2 ^ sh .t % 2 ^ wd .t) = _
    rw [show w_ / 2 ^ sh .t % 2 ^ wd .t = p3 from by simp only [sh, wd]; omega]
    exact u3
theorem dec_r_a {b w_ : Int} {v0 v1 : V} (h0 : inR .r v0 = true) (h1 : inR .a v1 = true) (e : w_ = b * 1073741824 + pk .r v0 * 2 ^ sh .r + pk .a v1 * 2 ^ sh .a) : w_ / 1073741824 = b ∧ partOf .r w_ = v0 ∧ partOf .a w_ = v1 := by
  have b0 := pk_fits h0
  have b1 := pk_fits h1
  have u0 := unp_pk h0
  have u1 := unp_pk h1
  obtain ⟨p0, ep0⟩ : ∃ p : Int, pk .r v0 = p := ⟨_, rfl⟩
  rw [ep0] at e b0 u0
  obtain ⟨p1, ep1⟩ : ∃ p : Int, pk .a v1 = p := ⟨_, rfl⟩
  rw [ep1] at e b1 u1
  simp only [sh, wd] at e b0 b1
  refine ⟨by omega, ?_, ?_⟩
  · show unp .r (w_ / 2 ^ sh .r % 2 ^ wd .r) = _
    rw [show w_ / 2 ^ sh .r % 2 ^ wd .r = p0 from by simp only [sh, wd]; omega]
    exact u0
  · show unp .a (w_ / 2 ^ sh .a % 2 ^ wd .a) = _
    rw [show w_ / 2 ^ sh .a % 2 ^ wd .a = p1 from by simp only [sh, wd]; omega]
    exact u1
theorem dec_r_s_a_ce {b w_ : Int} {v0 v1 v2 v3 : V} (h0 : inR .r v0 = true) (h1 : inR .s v1 = true) (h2 : inR .a v2 = true) (h3 : inR .ce v3 = true) (e : w_ = b * 1073741824 + pk .r v0 * 2 ^ sh .r + pk .s v1 * 2 ^ sh .s + pk .a v2 * 2 ^ sh .a + pk .ce v3 * 2 ^ sh .ce) : w_ / 1073741824 = b ∧ partOf .r w_ = v0 ∧ partOf .s w_ = v1 ∧ partOf .a w_ = v2 ∧ partOf .ce w_ = v3 := by
  have b0 := pk_fits h0
  have b1 := pk_fits h1
  have b2 := pk_fits h2
  have b3 := pk_fits h3
  have u0 := unp_pk h0
  have u1 := unp_pk h1
  have u2 := unp_pk h2
  have u3 := unp_pk h3
  obtain ⟨p0, ep0⟩ : ∃ p : Int, pk .r v0 = p := ⟨_, rfl⟩
  rw [ep0] at e b0 u0
  obtain ⟨p1, ep1⟩ : ∃ p : Int, pk .s v1 = p := ⟨_, rfl⟩
  rw [ep1] at e b1 u1
  obtain ⟨p2, ep2⟩ : ∃ p : Int, pk .a v2 = p := ⟨_, rfl⟩
  rw [ep2] at e b2 u2
  obtain ⟨p3, ep3⟩ : ∃ p : Int, pk .ce v3 = p := ⟨_, rfl⟩
  rw [ep3] at e b3 u3
  simp only [sh, wd] at e b0 b1 b2 b3
  refine ⟨by omega, ?_, ?_, ?_, ?_⟩
  · show unp .r (w_ / 2 ^ sh .r % 2 ^ wd .r) = _
    rw [show w_ / 2 ^ sh .r % 2 ^ wd .r = p0 from by simp only [sh, wd]; omega]
    exact u0
  · show unp .s (w_ / 2 ^ sh .s % 2 ^ wd .s) = _
    rw [show w_ / 2 ^ sh .s % 2 ^ wd .s = p1 from by simp only [sh, wd]; omega]
    exact u1
  · show unp .a (w_ / 2 ^ sh .a % 2 ^ wd .a) = _
    rw [show w_ / 2 ^ sh .a % 2 ^ wd .a = p2 from by simp only [sh, wd]; omega]
    exact u2
  · show unp .ce (w_ / 2 ^ sh .ce % 2 ^ wd .ce) = _
    rw [show w_ / 2 ^ sh .ce % 2 ^ wd .ce = p3 from by simp only [sh, wd]; omega]
    exact u3
theorem dec_p {b w_ : Int} {v0 : V} (h0 : inR .p v0 = true) (e : w_ = b * 1073741824 + pk .p v0 * 2 ^ sh .p) : w_ / 1073741824 = b ∧ partOf .p w_ = v0 := by
  have b0 := pk_fits h0
  have u0 := unp_pk h0
  obtain ⟨p0, ep0⟩ : ∃ p : Int, pk .p v0 = p := ⟨_, rfl⟩
  rw [ep0] at e b0 u0
  simp only [sh, wd] at e b0
  refine ⟨by omega, ?_⟩
  · show unp .p (w_ / 2 ^ sh .p % 2 ^ wd .p) = _
    rw [show w_ / 2 ^ sh .p % 2 ^ wd .p = p0 from by simp only [sh, wd]; omega]
    exact u0
theorem dec_r_p {b w_ : Int} {v0 v1 : V} (h0 : inR .r v0 = true) (h1 : inR .p v1 = true) (e : w_ = b * 1073741824 + pk .r v0 * 2 ^ sh .r + pk .p v1 * 2 ^ sh .p) : w_ / 1073741824 = b ∧ partOf .r w_ = v0 ∧ partOf .p w_ = v1 := by
  have b0 := pk_fits h0
  have b1 := pk_fits h1
  have u0 := unp_pk h0
  have u1 := unp_pk h1
  obtain ⟨p0, ep0⟩ : ∃ p : Int, pk .r v0 = p := ⟨_, rfl⟩
  rw [ep0] at e b0 u0
  obtain ⟨p1, ep1⟩ : ∃ p : Int, pk .p v1 = p := ⟨_, rfl⟩
  rw [ep1] at e b1 u1
  simp only [sh, wd] at e b0 b1
  refine ⟨by omega, ?_, ?_⟩
  · show unp .r (w_ / 2 ^ sh .r % 2 ^ wd .r) = _
    rw [show w_ / 2 ^ sh .r % 2 ^ wd .r = p0 from by simp only [sh, wd]; omega]
    exact u0
  · show unp .p (w_ / 2 ^ sh .p % 2 ^ wd .p) = _
    rw [show w_ / 2 ^ sh .p % 2 ^ wd .p = p1 from by simp only [sh, wd]; omega]
    exact u1
theorem dec_c_ro {b w_ : Int} {v0 v1 : V} (h0 : inR .c v0 = true) (h1 : inR .ro v1 = true) (e : w_ = b * 1073741824 + pk .c v0 * 2 ^ sh .c + pk .ro v1 * 2 ^ sh .ro) : w_ / 1073741824 = b ∧ partOf .c w_ = v0 ∧ partOf .ro w_ = v1 := by
  have b0 := pk_fits h0
  have b1 := pk_fits h1
  have u0 := unp_pk h0
  have u1 := unp_pk h1
  obtain ⟨p0, ep0⟩ : ∃ p : Int, pk .c v0 = p := ⟨_, rfl⟩
  rw [ep0] at e b0 u0
  obtain ⟨p1, ep1⟩ : ∃ p : Int, pk .ro v1 = p := ⟨_, rfl⟩
  rw [ep1] at e b1 u1
  simp only [sh, wd] at e b0 b1
  refine ⟨by omega, ?_, ?_⟩
  · show unp .c (w_ / 2 ^ sh .c % 2 ^ wd .c) = _
    rw [show w_ / 2 ^ sh .c % 2 ^ wd .c = p0 from by simp only [sh, wd]; omega]
    exact u0
  · show unp .ro (w_ / 2 ^ sh .ro % 2 ^ wd .ro) = _
    rw [show w_ / 2 ^ sh .ro % 2 ^ wd .ro = p1 from by simp only [sh, wd]; omega]
    exact u1
theorem dec_c_p {b w_ : Int} {v0 v1 : V} (h0 : inR .c v0 = true) (h1 : inR .p v1 = true) (e : w_ = b * 1073741824 + pk .c v0 * 2 ^ sh .c + pk .p v1 * 2 ^ sh .p) : w_ / 1073741824 = b ∧ partOf .c w_ = v0 ∧ partOf .p w_ = v1 := by
  have b0 := pk_fits h0
  have b1 := pk_fits h1
  have u0 := unp_pk h0
  have u1 := unp_pk h1
  obtain ⟨p0, ep0⟩ : ∃ p : Int, pk .c v0 = p := ⟨_, rfl⟩
  rw [ep0] at e b0 u0
  obtain ⟨p1, ep1⟩ : ∃ p : Int, pk .p v1 = p := ⟨_, rfl⟩
  rw [ep1] at e b1 u1
  simp only [sh, wd] at e b0 b1
  refine ⟨by omega, ?_, ?_⟩
  · show unp .c (w_ / 2 ^ sh .c % 2 ^ wd .c) = _
    rw [show w_ / 2 ^ sh .c % 2 ^ wd .c = p0 from by simp only [sh, wd]; omega]
    exact u0
  · show unp .p (w_ / 2 ^ sh .p % 2 ^ wd .p) = _
    rw [show w_ / 2 ^ sh .p % 2 ^ wd .p = p1 from by simp only [sh, wd]; omega]
    exact u1
theorem dec_nil {b w_ : Int}  (e : w_ = b * 1073741824) : w_ / 1073741824 = b := by
  omega
theorem dec_o {b w_ : Int} {v0 : V} (h0 : inR .o v0 = true) (e : w_ = b * 1073741824 + pk .o v0 * 2 ^ sh .o) : w_ / 1073741824 = b ∧ partOf .o w_ = v0 := by
  have b0 := pk_fits h0
  have u0 := unp_pk h0
  obtain ⟨p0, ep0⟩ : ∃ p : Int, pk .o v0 = p := ⟨_, rfl⟩
  rw [ep0] at e b0 u0
  simp only [sh, wd] at e b0
  refine ⟨by omega, ?_⟩
  · show unp .o (w_ / 2 ^ sh .o % 2 ^ wd .o) = _
    rw [show w_ / 2 ^ sh .o % 2 ^ wd .o = p0 from by simp only [sh, wd]; omega]
    exact u0
theorem dec_r_q {b w_ : Int} {v0 v1 : V} (h0 : inR .r v0 = true) (h1 : inR .q v1 = true) (e : w_ = b * 1073741824 + pk .r v0 * 2 ^ sh .r + pk .q v1 * 2 ^ sh .q) : w_ / 1073741824 = b ∧ partOf .r w_ = v0 ∧ partOf .q w_ = v1 := by
  have b0 := pk_fits h0
  have b1 := pk_fits h1
  have u0 := unp_pk h0
  have u1 := unp_pk h1
  obtain ⟨p0, ep0⟩ : ∃ p : Int, pk .r v0 = p := ⟨_, rfl⟩
  rw [ep0] at e b0 u0
  obtain ⟨p1, ep1⟩ : ∃ p : Int, pk .q v1 = p := ⟨_, rfl⟩
  rw [ep1] at e b1 u1
  simp only [sh, wd] at e b0 b1
  refine ⟨by omega, ?_, ?_⟩
  · show unp .r (w_ / 2 ^ sh .r % 2 ^ wd .r) = _
    rw [show w_ / 2 ^ sh .r % 2 ^ wd .r = p0 from by simp only [sh, wd]; omega]
    exact u0
  · show unp .q (w_ / 2 ^ sh .q % 2 ^ wd .q) = _
    rw [show w_ / 2 ^ sh .q % 2 ^ wd .q = p1 from by simp only [sh, wd]; omega]
    exact u1
theorem dec_ok {at_ : Nat} {items : List V} (h : insOk at_ items = true) : enc at_ items / 1073741824 = (at_ : Int) + 1 ∧ (formOf at_).map (fun x => partOf x (enc at_ items)) = items := by
  unfold insOk at h
  rw [Bool.and_eq_true, Bool.and_eq_true, Bool.and_eq_true, decide_eq_true_eq, decide_eq_true_eq] at h
  obtain ⟨h18, el, ha, _⟩ := h
  unfold allR at ha
  match at_, h18, el, ha with
  | 0, _, el, ha =>
    match items, el, ha with
    | [v0, v1], _, ha =>
      have ha2 : (inR .r v0 && (inR .sg v1 && true)) = true := ha
      rw [Bool.and_eq_true, Bool.and_eq_true] at ha2
      obtain ⟨h0, h1, _⟩ := ha2
      obtain ⟨d, e0, e1⟩ := dec_r_sg (b := ((0 : Nat) : Int) + 1) (w_ := enc 0 [v0, v1]) h0 h1 rfl
      refine ⟨d, ?_⟩
      show [partOf .r (enc 0 [v0,v1]), partOf .sg (enc 0 [v0,v1])] = _
      rw [e0, e1]
  | 1, _, el, ha =>
    match items, el, ha with
    | [v0, v1], _, ha =>
      have ha2 : (inR .r v0 && (inR .up v1 && true)) = true := ha
      rw [Bool.and_eq_true, Bool.and_eq_true] at ha2
      obtain ⟨h0, h1, _⟩ := ha2
      obtain ⟨d, e0, e1⟩ := dec_r_up (b := ((1 : Nat) : Int) + 1) (w_ := enc 1 [v0, v1]) h0 h1 rfl
      refine ⟨d, ?_⟩
      show [partOf .r (enc 1 [v0,v1]), partOf .up (enc 1 [v0,v1])] = _
      rw [e0, e1]
  | 2, _, el, ha =>
    match items, el, ha with
    | [v0, v1, v2, v3], _, ha =>
      have ha2 : (inR .k v0 && (inR .r v1 && (inR .s v2 && (inR .t v3 && true)))) = true := ha
      rw [Bool.and_eq_true, Bool.and_eq_true, Bool.and_eq_true, Bool.and_eq_true] at ha2
      obtain ⟨h0, h1, h2, h3, _⟩ := ha2
      obtain ⟨d, e0, e1, e2, e3⟩ := dec_k_r_s_t (b := ((2 : Nat) : Int) + 1) (w_ := enc 2 [v0, v1, v2, v3]) h0 h1 h2 h3 rfl
      refine ⟨d, ?_⟩
      show [partOf .k (enc 2 [v0,v1,v2,v3]), partOf .r (enc 2 [v0,v1,v2,v3]), partOf .s (enc 2 [v0,v1,v2,v3]), partOf .t (enc 2 [v0,v1,v2,v3])] = _
      rw [e0, e1, e2, e3]
  | 3, _, el, ha =>
    match items, el, ha with
    | [v0, v1], _, ha =>
      have ha2 : (inR .r v0 && (inR .a v1 && true)) = true := ha
      rw [Bool.and_eq_true, Bool.and_eq_true] at ha2
      obtain ⟨h0, h1, _⟩ := ha2
      obtain ⟨d, e0, e1⟩ := dec_r_a (b := ((3 : Nat) : Int) + 1) (w_ := enc 3 [v0, v1]) h0 h1 rfl
      refine ⟨d, ?_⟩
      show [partOf .r (enc 3 [v0,v1]), partOf .a (enc 3 [v0,v1])] = _
      rw [e0, e1]
  | 4, _, el, ha =>
    match items, el, ha with
    | [v0, v1], _, ha =>
      have ha2 : (inR .r v0 && (inR .a v1 && true)) = true := ha
      rw [Bool.and_eq_true, Bool.and_eq_true] at ha2
      obtain ⟨h0, h1, _⟩ := ha2
      obtain ⟨d, e0, e1⟩ := dec_r_a (b := ((4 : Nat) : Int) + 1) (w_ := enc 4 [v0, v1]) h0 h1 rfl
      refine ⟨d, ?_⟩
      show [partOf .r (enc 4 [v0,v1]), partOf .a (enc 4 [v0,v1])] = _
      rw [e0, e1]
  | 5, _, el, ha =>
    match items, el, ha with
    | [v0, v1, v2, v3], _, ha =>
      have ha2 : (inR .r v0 && (inR .s v1 && (inR .a v2 && (inR .ce v3 && true)))) = true := ha
      rw [Bool.and_eq_true, Bool.and_eq_true, Bool.and_eq_true, Bool.and_eq_true] at ha2
      obtain ⟨h0, h1, h2, h3, _⟩ := ha2
      obtain ⟨d, e0, e1, e2, e3⟩ := dec_r_s_a_ce (b := ((5 : Nat) : Int) + 1) (w_ := enc 5 [v0, v1, v2, v3]) h0 h1 h2 h3 rfl
      refine ⟨d, ?_⟩
      show [partOf .r (enc 5 [v0,v1,v2,v3]), partOf .s (enc 5 [v0,v1,v2,v3]), partOf .a (enc 5 [v0,v1,v2,v3]), partOf .ce (enc 5 [v0,v1,v2,v3])] = _
      rw [e0, e1, e2, e3]
  | 6, _, el, ha =>
    match items, el, ha with
    | [v0, v1, v2, v3], _, ha =>
      have ha2 : (inR .r v0 && (inR .s v1 && (inR .a v2 && (inR .ce v3 && true)))) = true := ha
      rw [Bool.and_eq_true, Bool.and_eq_true, Bool.and_eq_true, Bool.and_eq_true] at ha2
      obtain ⟨h0, h1, h2, h3, _⟩ := ha2
      obtain ⟨d, e0, e1, e2, e3⟩ := dec_r_s_a_ce (b := ((6 : Nat) : Int) + 1) (w_ := enc 6 [v0, v1, v2, v3]) h0 h1 h2 h3 rfl
      refine ⟨d, ?_⟩
      show [partOf .r (enc 6 [v0,v1,v2,v3]), partOf .s (enc 6 [v0,v1,v2,v3]), partOf .a (enc 6 [v0,v1,v2,v3]), partOf .ce (enc 6 [v0,v1,v2,v3])] = _
      rw [e0, e1, e2, e3]
  | 7, _, el, ha =>
    match items, el, ha with
    | [v0], _, ha =>
      have ha2 : (inR .p v0 && true) = true := ha
      rw [Bool.and_eq_true] at ha2
      obtain ⟨h0, _⟩ := ha2
      obtain ⟨d, e0⟩ := dec_p (b := ((7 : Nat) : Int) + 1) (w_ := enc 7 [v0]) h0 rfl
      refine ⟨d, ?_⟩
      show [partOf .p (enc 7 [v0])] = _
      rw [e0]
  | 8, _, el, ha =>
    match items, el, ha with
    | [v0, v1], _, ha =>
      have ha2 : (inR .r v0 && (inR .p v1 && true)) = true := ha
      rw [Bool.and_eq_true, Bool.and_eq_true] at ha2
      obtain ⟨h0, h1, _⟩ := ha2
      obtain ⟨d, e0, e1⟩ := dec_r_p (b := ((8 : Nat) : Int) + 1) (w_ := enc 8 [v0, v1]) h0 h1 rfl
      refine ⟨d, ?_⟩
      show [partOf .r (enc 8 [v0,v1]), partOf .p (enc 8 [v0,v1])] = _
      rw [e0, e1]
  | 9, _, el, ha =>
    match items, el, ha with
    | [v0, v1], _, ha =>
      have ha2 : (inR .c v0 && (inR .ro v1 && true)) = true := ha
      rw [Bool.and_eq_true, Bool.and_eq_true] at ha2
      obtain ⟨h0, h1, _⟩ := ha2
      obtain ⟨d, e0, e1⟩ := dec_c_ro (b := ((9 : Nat) : Int) + 1) (w_ := enc 9 [v0, v1]) h0 h1 rfl
      refine ⟨d, ?_⟩
      show [partOf .c (enc 9 [v0,v1]), partOf .ro (enc 9 [v0,v1])] = _
      rw [e0, e1]
  | 10, _, el, ha =>
    match items, el, ha with
    | [v0, v1], _, ha =>
      have ha2 : (inR .c v0 && (inR .p v1 && true)) = true := ha
      rw [Bool.and_eq_true, Bool.and_eq_true] at ha2
      obtain ⟨h0, h1, _⟩ := ha2
      obtain ⟨d, e0, e1⟩ := dec_c_p (b := ((10 : Nat) : Int) + 1) (w_ := enc 10 [v0, v1]) h0 h1 rfl
      refine ⟨d, ?_⟩
      show [partOf .c (enc 10 [v0,v1]), partOf .p (enc 10 [v0,v1])] = _
      rw [e0, e1]
  | 11, _, el, ha =>
    match items, el, ha with
    | [v0], _, ha =>
      have ha2 : (inR .p v0 && true) = true := ha
      rw [Bool.and_eq_true] at ha2
      obtain ⟨h0, _⟩ := ha2
      obtain ⟨d, e0⟩ := dec_p (b := ((11 : Nat) : Int) + 1) (w_ := enc 11 [v0]) h0 rfl
      refine ⟨d, ?_⟩
      show [partOf .p (enc 11 [v0])] = _
      rw [e0]
  | 12, _, el, ha =>
    match items, el, ha with
    | [], _, ha =>
      exact ⟨dec_nil (b := ((12 : Nat) : Int) + 1) rfl, rfl⟩
  | 13, _, el, ha =>
    match items, el, ha with
    | [], _, ha =>
      exact ⟨dec_nil (b := ((13 : Nat) : Int) + 1) rfl, rfl⟩
  | 14, _, el, ha =>
    match items, el, ha with
    | [v0], _, ha =>
      have ha2 : (inR .o v0 && true) = true := ha
      rw [Bool.and_eq_true] at ha2
      obtain ⟨h0, _⟩ := ha2
      obtain ⟨d, e0⟩ := dec_o (b := ((14 : Nat) : Int) + 1) (w_ := enc 14 [v0]) h0 rfl
      refine ⟨d, ?_⟩
      show [partOf .o (enc 14 [v0])] = _
      rw [e0]
  | 15, _, el, ha =>
    match items, el, ha with
    | [v0], _, ha =>
      have ha2 : (inR .o v0 && true) = true := ha
      rw [Bool.and_eq_true] at ha2
      obtain ⟨h0, _⟩ := ha2
      obtain ⟨d, e0⟩ := dec_o (b := ((15 : Nat) : Int) + 1) (w_ := enc 15 [v0]) h0 rfl
      refine ⟨d, ?_⟩
      show [partOf .o (enc 15 [v0])] = _
      rw [e0]
  | 16, _, el, ha =>
    match items, el, ha with
    | [v0, v1], _, ha =>
      have ha2 : (inR .r v0 && (inR .q v1 && true)) = true := ha
      rw [Bool.and_eq_true, Bool.and_eq_true] at ha2
      obtain ⟨h0, h1, _⟩ := ha2
      obtain ⟨d, e0, e1⟩ := dec_r_q (b := ((16 : Nat) : Int) + 1) (w_ := enc 16 [v0, v1]) h0 h1 rfl
      refine ⟨d, ?_⟩
      show [partOf .r (enc 16 [v0,v1]), partOf .q (enc 16 [v0,v1])] = _
      rw [e0, e1]
  | 17, _, el, ha =>
    match items, el, ha with
    | [v0, v1], _, ha =>
      have ha2 : (inR .r v0 && (inR .q v1 && true)) = true := ha
      rw [Bool.and_eq_true, Bool.and_eq_true] at ha2
      obtain ⟨h0, h1, _⟩ := ha2
      obtain ⟨d, e0, e1⟩ := dec_r_q (b := ((17 : Nat) : Int) + 1) (w_ := enc 17 [v0, v1]) h0 h1 rfl
      refine ⟨d, ?_⟩
      show [partOf .r (enc 17 [v0,v1]), partOf .q (enc 17 [v0,v1])] = _
      rw [e0, e1]
  | n + 18, h, _, _ => exact absurd h (by omega)

theorem encF_snoc (w : Int) (p : Prt × V) : ∀ l : List (Prt × V), encF w (l ++ [p]) = encF w l + pk p.1 p.2 * 2 ^ sh p.1 := by
  intro l
  induction l generalizing w with
  | nil => rfl
  | cons a r ih => exact ih _
section
variable {P : Program} {w : World} {K : PySem.W.Frag} {mg : Str → Option Value} {base : Heap}
/-- an error of the class at C with this number, in a new dict; what was there stands -/
def AtOut (C : Addr) (n : Int) (H : Hp) (E : XK) : Prop := ∀ H' d, Same H H' → H d = none → H' d = some (.xd [(("at" : Str), .int n)]) → E (.ref C) (some d) H'
def sp_encode (K : PySem.W.Frag) (C : Addr) : Sp := fun vs H Q E => ∃ (t : Addr) (at_ : Nat) (items : List V), vs = [.ref t] ∧ SqT K H t (.str (nameOf at_) :: items) ∧ at_ < 20 ∧ (∀ v ∈ items, Itm v) ∧ items.length ≤ 10 ∧
  (insOk at_ items = true → ∀ H', Same H H' → Q (.int (enc at_ items)) H') ∧ (insOk at_ items = false → AtOut C 0 H E)
theorem ok_encode (T : Top P w K mg) : FnOk P w K mg base (L2.CX P w) 4 T.a_encode T.d_encode ["instruction"]  (sp_encode K T.C_CodeError) := by
  refine T.F_encode.okX sc_encode (fun vs H Q E h => ?_) (fun cdv A outer s H vs Q E hr h => ?_)
  · obtain ⟨_, _, _, rfl, _⟩ := h
    rfl
  · obtain ⟨t, at_, items, rfl, hT, h20, hI, hl, q, qe⟩ := h
    refine ⟨_, (pss_cons (ps_if (pt_not (pt_val (pe_call (ok_is_instruction T) (hr.mono (by decide)) (by rfl) T.g_is_instruction T.F_is_instruction.kp T.b_is_instruction .nil pass0 (pa_cons (pv 0) pa_nil))))
  (pss_one (ps_raiseErr (lv := 1) rfl T.x_CodeError fo_CodeError hr (takes_of rfl rfl rfl rfl) (pa_cons pe_int pa_nil)))
  pss_nil)
  (pss_cons (ps_set (i := 1) sc_encode.nd rfl (by first | exact Or.inl rfl | exact Or.inr rfl) (pe_op op_shl (pe_op op_add (pe_bm PySem.F.plainAttrs_tuple PySem.F.slot_tuple_index PySem.F.type_tuple_index mt_tup_index (pe_gr (by rfl) T.c_NAMES) (pa_cons (pe_ix ix_tup (pv 0) pe_int (fun _ _ => rfl)) pa_nil)) pe_int) (pe_gi (by rfl) T.c_OPCODE_BIT)))
  (pss_cons (ps_for (passes_of rfl) rfl (RZ.pi_zipA (by rfl) T.m_zip (pa_cons (pe_ix ix_kdict (pe_gr (by rfl) T.c_FORMS) (pe_ix ix_tup (pv 0) pe_int (fun _ _ => rfl)) (fun _ _ => rfl)) (pa_cons (pe_slice sl_tup (pv 0) (po_some pe_int) po_none) pa_nil))) (pg_tup rfl (pgs_cons (pg_name (i := 2) sc_encode.nd rfl (by first | exact Or.inl rfl | exact Or.inr rfl)) (pgs_cons (pg_name (i := 3) sc_encode.nd rfl (by first | exact Or.inl rfl | exact Or.inr rfl)) pgs_nil)))
  (pss_cons (ps_asg (pe_ix ix_kdict (pe_gr (by rfl) T.c_BITS) (pv 2) (fun _ _ => rfl)) (pg_tup rfl (pgs_cons (pg_name (i := 4) sc_encode.nd rfl (by first | exact Or.inl rfl | exact Or.inr rfl)) (pgs_cons (pg_name (i := 5) sc_encode.nd rfl (by first | exact Or.inl rfl | exact Or.inr rfl)) pgs_nil))))
  (pss_one (ps_aug (i := 1) sc_encode.nd rfl (by first | exact Or.inl rfl | exact Or.inr rfl) (pe_op op_shl (pe_call (ok__packed T) (hr.mono (by decide)) (by rfl) T.g__packed T.F__packed.kp T.b__packed .nil pass0 (pa_cons (pv 2) (pa_cons (pv 3) pa_nil))) (pv 4)) ip_add))))
  (pss_one (ps_ret (pv 1)))))), ?_⟩
    refine ⟨_, rfl, t, _, rfl, hT, .inr ⟨at_, items, rfl, h20, hI, hl, fun H1 s1 => ⟨insOk at_ items, rfl, ?_⟩⟩⟩
    cases ei : insOk at_ items with
    | false =>
      refine iteT ⟨_, rfl, msg_CodeError T (n := 0) (Nat.pow_pos (by decide)), fun d hd => ?_⟩
      exact qe ei _ d (s1.trans (same_new hd)) (s1.free hd) upd_same
    | true =>
      refine iteF ?_
      have hi := ei
      unfold insOk at hi
      rw [Bool.and_eq_true, Bool.and_eq_true, Bool.and_eq_true, decide_eq_true_eq, decide_eq_true_eq] at hi
      obtain ⟨h18, el, ha, _⟩ := hi
      have hT1 := Same.seqT s1 hT
      obtain ⟨n1, n2⟩ := name_idx h18
      refine ⟨.inr (.inl ⟨rfl, T.l_NAMES⟩), _, rfl, t, _, 0, .str (nameOf at_), rfl, rfl, hT1, atI_nat (j := 0) rfl, T.p_NAMES, NAME18, nameOf at_, at_, rfl, rfl, T.q_NAMES _, n1, n2, ?_⟩
      refine ⟨_, _, rfl, rfl, _, _, rfl, rfl, ⟨by decide, by decide, by omega⟩, ?_⟩
      obtain ⟨tf, kd, nsf, hF⟩ := form_at T h18
      refine ⟨_, rfl, t, _, 0, .str (nameOf at_), rfl, rfl, hT1, atI_nat (j := 0) rfl, T.p_FORMS, nameOf at_, _, rfl, rfl, kd, ?_⟩
      refine ⟨_, rfl, _, rfl, t, _, rfl, hT1, cut1_no, fun u nu => ?_⟩
      rw [cut1]
      refine ⟨tf, u, _, _, rfl, .inr ⟨hF _, SqT.of upd_same, ?_⟩⟩
      have sm1 : Same H1 (upd H1 u (.tup items)) := same_new nu
      refine RZ.for_zipT (xs := (formOf at_).map fun x => V.str (pn x)) (ys := items) (by rw [List.length_map, el]) (fun i σ H' => ∃ y2 y3 y4 y5, σ = [some (.ref t), some (.int (encF (((at_ : Int) + 1) * 1073741824) (((formOf at_).zip items).take i))), y2, y3, y4, y5] ∧ Same (upd H1 u (.tup items)) H')
        ⟨none, none, none, none, rfl, Same.refl _⟩ (fun i σ H' h => by obtain ⟨_, _, _, _, _, sm⟩ := h; exact ⟨hF _, SqT.of (sm _ _ upd_same)⟩) ?_ ?_
      · rintro i a b Tt σ H' ha1 hb ⟨y2, y3, y4, y5, rfl, sm⟩ nT
        obtain ⟨x, hx, rfl⟩ : ∃ x, (formOf at_)[i]? = some x ∧ V.str (pn x) = a := by
          rw [List.getElem?_map] at ha1
          cases e : (formOf at_)[i]? with
          | none => rw [e] at ha1; cases ha1
          | some x => rw [e] at ha1; exact ⟨x, rfl, Option.some.inj ha1⟩
        have hz := zip_at hx hb
        have hin : inR x b = true := by
          have := List.all_eq_true.mp ha (x, b) (List.mem_of_getElem? hz)
          exact this
        have bnd := pk_fits hin
        have sw : wd x ≤ 16 ∧ sh x ≤ 26 := by cases x <;> decide
        have pw : (2 : Int) ^ wd x ≤ 2 ^ 16 := by cases x <;> decide
        obtain ⟨tb, kb, hb2⟩ := bits_at T x
        refine ⟨Tt, _, rfl, SqT.of upd_same, rfl, _, _, rfl, _, _, rfl, rfl, ?_⟩
        refine ⟨_, rfl, T.p_BITS, pn x, _, rfl, rfl, kb, tb, _, rfl, hb2 _, rfl, _, _, rfl, _, _, rfl, rfl, ?_⟩
        refine ⟨_, rfl, _, rfl, _, rfl, x, b, rfl, hin, ?_⟩
        refine ⟨_, rfl, _, _, rfl, rfl, ⟨Int.natCast_nonneg _, by omega, by omega⟩, _, _, rfl, rfl, ?_⟩
        have es : encF (((at_ : Int) + 1) * 1073741824) (((formOf at_).zip items).take (i + 1)) = encF (((at_ : Int) + 1) * 1073741824) (((formOf at_).zip items).take i) + pk x b * 2 ^ sh x := by
          rw [List.take_add_one, hz]
          exact encF_snoc _ _ _
        refine ⟨some (.str (pn x)), some b, some (.int (sh x)), some (.int (wd x)), ?_, sm.trans (same_new nT)⟩
        rw [es]
        rfl
      · rintro σ H' ⟨y2, y3, y4, y5, rfl, sm⟩
        refine ⟨_, rfl, ?_⟩
        have e : ((formOf at_).zip items).take ((formOf at_).map fun x => V.str (pn x)).length = (formOf at_).zip items := List.take_of_length_le (by rw [List.length_zip, el, Nat.min_self, List.length_map]; exact Nat.le_refl _)
        rw [e]
        exact q ei H' (s1.trans (sm1.trans sm))
end

section
variable {P : Program} {w : World} {K : PySem.W.Frag} {mg : Str → Option Value} {base : Heap}
def sp_decode : Sp := fun vs H Q _ => ∃ (n : Int) (at_ : Nat) (items : List V), vs = [.int n] ∧ n = enc at_ items ∧ insOk at_ items = true ∧ (∀ v ∈ items, Itm v) ∧
  ∀ H' r, Same H H' → H r = none → H' r = some (.tup (.str (nameOf at_) :: items)) → Q (.ref r) H'
theorem pass_two {at_ : Nat} (h : at_ < 18) : NAME18[at_]? = some (nameOf at_) := (name_idx h).1
theorem ok_decode (T : Top P w K mg) : FnOk P w K mg base CX0 5 T.a_decode T.d_decode ["word"]  sp_decode := by
  refine T.F_decode.ok sc_decode (fun vs H Q E h => ?_) (fun cdv A outer s H vs Q E hr h => ?_)
  · obtain ⟨_, _, _, rfl, _⟩ := h
    rfl
  · obtain ⟨n, at_, items, rfl, en, ei, hI, q⟩ := h
    refine ⟨_, (pss_cons (ps_set (i := 1) sc_decode.nd rfl (by first | exact Or.inl rfl | exact Or.inr rfl) (pe_op op_shr (pv 0) (pe_gi (by rfl) T.c_OPCODE_BIT)))
  (pss_cons (ps_if (pt_not (pt_chain op_le op_le pe_int (pv 1) (pe_callB call_len_seq (by rfl) T.m_len PySem.boot_len (pa_cons (pe_gr (by rfl) T.c_NAMES) pa_nil))))
  (pss_one ps_never)
  pss_nil)
  (pss_cons (ps_set (i := 2) sc_decode.nd rfl (by first | exact Or.inl rfl | exact Or.inr rfl) (pe_ix ix_tup (pe_gr (by rfl) T.c_NAMES) (pe_op op_sub (pv 1) pe_int) (fun _ _ => rfl)))
  (pss_cons (ps_set (i := 3) sc_decode.nd rfl (by first | exact Or.inl rfl | exact Or.inr rfl) (pe_callTy call_tuple_of (by rfl) T.m_tuple (by decide +kernel) (pa_cons (pe_op op_cat (pe_lst (pa_cons (pv 2) pa_nil)) (pe_lc (own := [("part", 4)]) (g := gName 4) (tt := tYes) rfl sc_decode.nd (pi_tup (pe_ix ix_kdict (pe_gr (by rfl) T.c_FORMS) (pv 2) (fun _ _ => rfl))) (blkOk_by (N := ["word", "opcode", "name", "instruction", "part"]) (sc := defScope s_decode) (by decide +kernel)) (fun _ _ _ _ _ => pg_name (i := 4) sc_decode.nd rfl (Or.inl rfl)) (fun _ _ _ _ _ => pts_nil) (fun _ _ _ _ _ => (pe_call (ok__part_of T) (hr.mono (by decide)) (by rfl) T.g__part_of T.F__part_of.kp T.b__part_of .nil pass0 (pa_cons (pv 0) (pa_cons (pv 4) pa_nil)))))) pa_nil)))
  (pss_cons (ps_if (pt_cmpR op_ne (pe_call (ok_encode T) (hr.mono (by decide)) (by rfl) T.g_encode T.F_encode.kp T.b_encode .nil pass_no (pa_cons (pv 3) pa_nil)) (pv 0) (nomark _))
  (pss_one ps_never)
  pss_nil)
  (pss_one (ps_ret (pv 3)))))))), ?_⟩
    obtain ⟨d1, d2⟩ := dec_ok ei
    rw [← en] at d1 d2
    have hi := ei
    unfold insOk at hi
    rw [Bool.and_eq_true, Bool.and_eq_true, Bool.and_eq_true, decide_eq_true_eq, decide_eq_true_eq] at hi
    obtain ⟨h18, el, ha, _⟩ := hi
    have hl4 := form_short at_
    refine ⟨_, rfl, _, _, rfl, rfl, (by show (0 : Int) ≤ 30; decide), ?_⟩
    show gName 1 (V.int (n / 1073741824)) _ _ _
    rw [d1]
    refine ⟨_, rfl, _, _, rfl, rfl, _, rfl, ?_⟩
    rw [decide_eq_true (show (1 : Int) ≤ (at_ : Int) + 1 by omega)]
    refine iteT ⟨T.p_NAMES, NAME18.map V.str, rfl, .inr (T.q_NAMES _), _, _, rfl, rfl, _, rfl, ?_⟩
    rw [decide_eq_true (show (at_ : Int) + 1 ≤ ((NAME18.map V.str).length : Nat) by show (at_ : Int) + 1 ≤ 18; omega)]
    refine iteF ?_
    refine ⟨_, rfl, _, _, rfl, rfl, T.p_NAMES, NAME18.map V.str, _, .str (nameOf at_), rfl, rfl, T.q_NAMES _, at_of (j := at_) (by omega) (by rw [List.getElem?_map, pass_two h18]; rfl), ?_⟩
    obtain ⟨tf, kd, nsf, hF⟩ := form_at T h18
    refine ⟨_, rfl, by show 1 ≤ sizeLine; decide, fun u nu => ?_⟩
    refine ⟨_, rfl, T.p_FORMS, nameOf at_, _, rfl, rfl, kd, tf, rfl, ⟨_, hF _⟩, fun D nD => ?_⟩
    refine lc_tup (xs := (formOf at_).map fun x => V.str (pn x)) (fun i H' => H' = upd (upd H u (.lst [.str (nameOf at_)])) D (.lst (((formOf at_).take i).map fun x => partOf x n))) rfl (fun i H' _ _ => hF _) ?_ ?_
    · rintro i y H' hi rfl
      obtain ⟨x, hx, rfl⟩ : ∃ x, (formOf at_)[i]? = some x ∧ V.str (pn x) = y := by
        rw [List.getElem?_map] at hi
        cases e : (formOf at_)[i]? with
        | none => rw [e] at hi; cases hi
        | some x => rw [e] at hi; exact ⟨x, rfl, Option.some.inj hi⟩
      refine ⟨rfl, ?_⟩
      refine ⟨_, rfl, _, rfl, x, n, rfl, ?_⟩
      refine ⟨_, upd_same, ?_, ?_⟩
      · have := List.length_take_le i (formOf at_)
        have h3 : ((formOf at_).take i).length ≤ (formOf at_).length := List.length_take_le' ..
        rw [List.length_map]
        exact small1000 (by omega)
      · rw [upd_upd, List.take_add_one, hx, List.map_append]
        rfl
    · rintro H' rfl
      have e1 : (((formOf at_).take ((formOf at_).map fun x => V.str (pn x)).length).map fun x => partOf x n) = items := by
        rw [List.length_map, List.take_length]
        exact d2
      rw [e1]
      have uD : u ≠ D := fun z => by
        rw [← z, upd_same] at nD
        cases nD
      have nD0 : H D = none := by
        rw [upd_ne uD.symm] at nD
        exact nD
      refine ⟨u, D, _, _, rfl, rfl, (by rw [upd_ne uD]; exact upd_same), upd_same, ?_, fun c nc => ?_⟩
      · show [V.str (nameOf at_)].length + items.length ≤ sizeLine
        rw [el]
        exact Nat.le_trans (show 1 + (formOf at_).length ≤ 100 by omega) (by decide)
      refine ⟨c, _, rfl, .inl ⟨SqL.of upd_same, fun r nr => ?_⟩⟩
      have sm2 : Same H (upd (upd H u (.lst [.str (nameOf at_)])) D (.lst items)) := (same_new nu).trans (same_new nD)
      have sm3 := (sm2.trans (same_new (o := .lst ([.str (nameOf at_)] ++ items)) nc)).trans (same_new (o := .tup ([.str (nameOf at_)] ++ items)) nr)
      refine ⟨_, rfl, r, at_, items, rfl, SqT.of upd_same, by omega, hI, by omega, fun _ H9 s9 => ?_, fun z => by rw [ei] at z; cases z⟩
      refine ⟨_, rfl, rfl, _, rfl, ?_⟩
      rw [en, decide_eq_true rfl]
      refine iteF ⟨_, rfl, ?_⟩
      exact q H9 r (sm3.trans s9) ((sm2.trans (same_new (o := .lst ([.str (nameOf at_)] ++ items)) nc)).free nr) (s9 _ _ upd_same)
end

/-! ### the law's own defs -/
theorem name_is {i j : Nat} (hi : i < 20) (hj : j < 20) (e : nameOf i = nameOf j) : i = j := by
  have : ∀ a b : Fin 20, nameOf a.val = nameOf b.val → a = b := by decide +kernel
  exact congrArg Fin.val (this ⟨i, hi⟩ ⟨j, hj⟩ e)
theorem name_at {at_ : Nat} (h : at_ < 20) : (NAMEV.map V.str)[at_]? = some (.str (nameOf at_)) := by
  unfold nameOf
  rw [List.getElem?_map, List.getD_eq_getElem?_getD, List.getElem?_eq_getElem (show at_ < NAMEV.length from h)]
  rfl
theorem form_big {at_ : Nat} (h : ¬ at_ < 18) : formOf at_ = [] := by
  unfold formOf formL
  rw [List.getD_eq_getElem?_getD, List.getElem?_eq_none (by simp; omega)]
  rfl
theorem in_two {z a b : Str} : inV (.str z) [.str a, .str b] = (decide (z = a) || decide (z = b)) := by
  have e : inV (.str z) [.str a, .str b] = decide (z ∈ [a, b]) := inV_str (l := [a, b])
  rw [e]
  by_cases h1 : z = a
  · simp [h1]
  · by_cases h2 : z = b
    · simp [h2]
    · simp [h1, h2]
theorem StOk.upd {H : Hp} {p c D : Addr} {o : HO} (s : StOk H p c) (h1 : D ≠ p) (h2 : D ≠ c) : StOk (upd H D o) p c := by
  obtain ⟨ms, k, v, sd, a, b, e, r⟩ := s
  exact ⟨ms, k, v, sd, a, by rw [upd_ne h1.symm]; exact b, by rw [upd_ne h2.symm]; exact e, r⟩
/-- what the law draws for a part -/
def ItemOk (x : Prt) (v : V) : Prop := (x = .k ∧ ∃ z, v = .str z ∧ z ∈ CALC19) ∨ (x ≠ .k ∧ ∃ n : Int, v = .int n)
theorem ItemOk.itm {x : Prt} {v : V} (h : ItemOk x v) : Itm v := by
  rcases h with ⟨_, z, rfl, _⟩ | ⟨_, n, rfl⟩
  · exact .inr ⟨_, rfl⟩
  · exact .inl ⟨_, rfl⟩
section
variable {P : Program} {w : World} {K : PySem.W.Frag} {mg : Str → Option Value} {base : Heap}
def sp__law_name : Sp := fun vs H Q _ => ∃ at_ : Nat, vs = [.int at_] ∧ at_ < 20 ∧ ∀ H', Same H H' → Q (.str (nameOf at_)) H'
theorem ok__law_name (T : Top P w K mg) : FnOk P w K mg base CX0 1 T.a__law_name T.d__law_name ["at"]  sp__law_name := by
  refine T.F__law_name.ok sc__law_name (fun vs H Q E h => ?_) (fun cdv A outer s H vs Q E hr h => ?_)
  · obtain ⟨_, rfl, _⟩ := h
    rfl
  · obtain ⟨at_, rfl, h20, q⟩ := h
    refine ⟨_, (pss_cons (ps_set (i := 1) sc__law_name.nd rfl (by first | exact Or.inl rfl | exact Or.inr rfl) (pe_lst (pa_cons pe_str (pa_cons pe_str (pa_cons pe_str (pa_cons pe_str (pa_cons pe_str (pa_cons pe_str (pa_cons pe_str (pa_cons pe_str (pa_cons pe_str (pa_cons pe_str (pa_cons pe_str (pa_cons pe_str pa_nil))))))))))))))
  (pss_cons (ps_set (i := 1) sc__law_name.nd rfl (by first | exact Or.inl rfl | exact Or.inr rfl) (pe_op op_cat (pv 1) (pe_lst (pa_cons pe_str (pa_cons pe_str (pa_cons pe_str (pa_cons pe_str (pa_cons pe_str (pa_cons pe_str (pa_cons pe_str (pa_cons pe_str pa_nil)))))))))))
  (pss_one (ps_ret (pe_ix ix_list (pv 1) (pv 0) (fun _ _ => rfl)))))), ?_⟩
    refine ⟨by show 12 ≤ sizeLine; decide, fun a na => ?_⟩
    refine ⟨_, rfl, by show 8 ≤ sizeLine; decide, fun b nb => ?_⟩
    have ab : a ≠ b := fun e => by rw [← e, upd_same] at nb; cases nb
    refine ⟨a, b, _, _, rfl, rfl, by rw [upd_ne ab]; exact upd_same, upd_same, by show 12 + 8 ≤ sizeLine; decide, fun d nd => ?_⟩
    refine ⟨_, rfl, _, rfl, d, NAMEV.map V.str, _, .str (nameOf at_), rfl, rfl, SqL.of upd_same, at_of (j := at_) rfl (name_at h20), ?_⟩
    exact q _ (((same_new na).trans (same_new nb)).trans (same_new nd))
def sp__law_operation : Sp := fun vs H Q _ => ∃ (j : Nat) (z : Str), vs = [.int j] ∧ CALC19[j]? = some z ∧ ∀ H', Same H H' → Q (.str z) H'
theorem ok__law_operation (T : Top P w K mg) : FnOk P w K mg base CX0 1 T.a__law_operation T.d__law_operation ["at"]  sp__law_operation := by
  refine T.F__law_operation.ok sc__law_operation (fun vs H Q E h => ?_) (fun cdv A outer s H vs Q E hr h => ?_)
  · obtain ⟨_, _, rfl, _⟩ := h
    rfl
  · obtain ⟨j, z, rfl, hz, q⟩ := h
    refine ⟨_, (pss_cons (ps_set (i := 1) sc__law_operation.nd rfl (by first | exact Or.inl rfl | exact Or.inr rfl) (pe_lst (pa_cons pe_str (pa_cons pe_str (pa_cons pe_str (pa_cons pe_str (pa_cons pe_str (pa_cons pe_str (pa_cons pe_str (pa_cons pe_str (pa_cons pe_str (pa_cons pe_str (pa_cons pe_str (pa_cons pe_str (pa_cons pe_str (pa_cons pe_str (pa_cons pe_str pa_nil)))))))))))))))))
  (pss_cons (ps_set (i := 1) sc__law_operation.nd rfl (by first | exact Or.inl rfl | exact Or.inr rfl) (pe_op op_cat (pv 1) (pe_lst (pa_cons pe_str (pa_cons pe_str (pa_cons pe_str (pa_cons pe_str pa_nil)))))))
  (pss_one (ps_ret (pe_ix ix_list (pv 1) (pv 0) (fun _ _ => rfl)))))), ?_⟩
    refine ⟨by show 15 ≤ sizeLine; decide, fun a na => ?_⟩
    refine ⟨_, rfl, by show 4 ≤ sizeLine; decide, fun b nb => ?_⟩
    have ab : a ≠ b := fun e => by rw [← e, upd_same] at nb; cases nb
    refine ⟨a, b, _, _, rfl, rfl, by rw [upd_ne ab]; exact upd_same, upd_same, by show 15 + 4 ≤ sizeLine; decide, fun d nd => ?_⟩
    refine ⟨_, rfl, _, rfl, d, CALC19.map V.str, _, .str z, rfl, rfl, SqL.of upd_same, at_of (j := j) rfl (by rw [List.getElem?_map, hz]; rfl), ?_⟩
    exact q _ (((same_new na).trans (same_new nb)).trans (same_new nd))
def sp__law_kinds : Sp := fun vs H Q _ => ∃ at_ : Nat, vs = [.str (nameOf at_)] ∧ at_ < 20 ∧ ∀ H' l, Same H H' → H l = none → H' l = some (.lst ((formOf at_).map fun x => V.str (kn x))) → Q (.ref l) H'
theorem ok__law_kinds (T : Top P w K mg) : FnOk P w K mg base CX0 1 T.a__law_kinds T.d__law_kinds ["name"]  sp__law_kinds := by
  refine T.F__law_kinds.ok sc__law_kinds (fun vs H Q E h => ?_) (fun cdv A outer s H vs Q E hr h => ?_)
  · obtain ⟨_, rfl, _⟩ := h
    rfl
  · obtain ⟨at_, rfl, h20, q⟩ := h
    refine ⟨_, (pss_cons (ps_if (pt_cmpR op_eq (pv 0) pe_str (nomark _))
  (pss_one (ps_ret (pe_lst (pa_cons pe_str (pa_cons pe_str (pa_cons pe_str (pa_cons pe_str pa_nil)))))))
  pss_nil)
  (pss_cons (ps_if (pt_cmpR op_in_seq (pv 0) (pe_tup (pa_cons pe_str (pa_cons pe_str pa_nil))) (by with_unfolding_all rfl))
  (pss_one (ps_ret (pe_lst (pa_cons pe_str (pa_cons pe_str (pa_cons pe_str (pa_cons pe_str pa_nil)))))))
  pss_nil)
  (pss_cons (ps_if (pt_cmpR op_eq (pv 0) pe_str (nomark _))
  (pss_one (ps_ret (pe_lst (pa_cons pe_str (pa_cons pe_str pa_nil)))))
  pss_nil)
  (pss_cons (ps_if (pt_cmpR op_eq (pv 0) pe_str (nomark _))
  (pss_one (ps_ret (pe_lst (pa_cons pe_str (pa_cons pe_str pa_nil)))))
  pss_nil)
  (pss_cons (ps_if (pt_cmpR op_in_seq (pv 0) (pe_tup (pa_cons pe_str (pa_cons pe_str pa_nil))) (by with_unfolding_all rfl))
  (pss_one (ps_ret (pe_lst (pa_cons pe_str (pa_cons pe_str pa_nil)))))
  pss_nil)
  (pss_cons (ps_if (pt_cmpR op_in_seq (pv 0) (pe_tup (pa_cons pe_str (pa_cons pe_str pa_nil))) (by with_unfolding_all rfl))
  (pss_one (ps_ret (pe_lst (pa_cons pe_str pa_nil))))
  pss_nil)
  (pss_cons (ps_if (pt_cmpR op_eq (pv 0) pe_str (nomark _))
  (pss_one (ps_ret (pe_lst (pa_cons pe_str (pa_cons pe_str pa_nil)))))
  pss_nil)
  (pss_cons (ps_if (pt_cmpR op_eq (pv 0) pe_str (nomark _))
  (pss_one (ps_ret (pe_lst (pa_cons pe_str (pa_cons pe_str pa_nil)))))
  pss_nil)
  (pss_cons (ps_if (pt_cmpR op_eq (pv 0) pe_str (nomark _))
  (pss_one (ps_ret (pe_lst (pa_cons pe_str (pa_cons pe_str pa_nil)))))
  pss_nil)
  (pss_cons (ps_if (pt_cmpR op_in_seq (pv 0) (pe_tup (pa_cons pe_str (pa_cons pe_str pa_nil))) (by with_unfolding_all rfl))
  (pss_one (ps_ret (pe_lst (pa_cons pe_str pa_nil))))
  pss_nil)
  (pss_cons (ps_if (pt_cmpR op_in_seq (pv 0) (pe_tup (pa_cons pe_str (pa_cons pe_str pa_nil))) (by with_unfolding_all rfl))
  (pss_one (ps_ret (pe_lst (pa_cons pe_str (pa_cons pe_str pa_nil)))))
  pss_nil)
  (pss_one (ps_ret (pe_lst pa_nil)))))))))))))), ?_⟩
    have one : ∀ (j : Nat) (c : decide (V.str (nameOf at_) = V.str (nameOf j)) = true), j < 20 → at_ = j := fun j c hj => name_is h20 hj (V.str.inj (of_decide_eq_true c))
    have no1 : ∀ (j : Nat) (c : ¬ decide (V.str (nameOf at_) = V.str (nameOf j)) = true), at_ ≠ j := fun j c e => c (by rw [e]; exact decide_eq_true rfl)
    have two : ∀ (i j : Nat) (c : inV (.str (nameOf at_)) [.str (nameOf i), .str (nameOf j)] = true), i < 20 → j < 20 → at_ = i ∨ at_ = j := fun i j c hi hj => by
      rw [in_two, Bool.or_eq_true, decide_eq_true_eq, decide_eq_true_eq] at c
      exact c.imp (name_is h20 hi) (name_is h20 hj)
    have no2 : ∀ (i j : Nat) (c : ¬ inV (.str (nameOf at_)) [.str (nameOf i), .str (nameOf j)] = true), at_ ≠ i ∧ at_ ≠ j := fun i j c => by
      rw [in_two, Bool.or_eq_true, decide_eq_true_eq, decide_eq_true_eq, not_or] at c
      exact ⟨fun e => c.1 (by rw [e]), fun e => c.2 (by rw [e])⟩
    have fin : ∀ (H1 : Hp) (l : Addr) (xs : List V), Same H H1 → H1 l = none → xs = (formOf at_).map (fun x => V.str (kn x)) → Q (.ref l) (upd H1 l (.lst xs)) := fun H1 l xs s1 n1 e => q _ l (s1.trans (same_new n1)) (s1.free n1) (by rw [e]; exact upd_same)
    refine ⟨_, rfl, rfl, _, rfl, ite2 (fun c => ?_) (fun c => ?_)⟩
    · have := one 2 c (by decide)
      subst this
      exact ⟨by show 4 ≤ sizeLine; decide, fun l nl => fin _ l _ (Same.refl _) nl rfl⟩
    have m1 := no1 2 c
    refine ⟨_, rfl, by show 2 ≤ sizeLine; decide, fun t1 n1 => ⟨t1, _, rfl, .inr (SqT.of upd_same), rfl, rfl, _, rfl, ite2 (fun c => ?_) (fun c => ?_)⟩⟩
    · rcases two 5 6 c (by decide) (by decide) with e | e <;> subst e <;> exact ⟨by show 4 ≤ sizeLine; decide, fun l nl => fin _ l _ (same_new n1) nl rfl⟩
    have m2 := no2 5 6 c
    have s1 : Same H (upd H t1 (.tup [.str "loadx", .str "storex"])) := same_new n1
    refine ⟨_, rfl, rfl, _, rfl, ite2 (fun c => ?_) (fun c => ?_)⟩
    · have := one 0 c (by decide)
      subst this
      exact ⟨by show 2 ≤ sizeLine; decide, fun l nl => fin _ l _ s1 nl rfl⟩
    have m3 := no1 0 c
    refine ⟨_, rfl, rfl, _, rfl, ite2 (fun c => ?_) (fun c => ?_)⟩
    · have := one 1 c (by decide)
      subst this
      exact ⟨by show 2 ≤ sizeLine; decide, fun l nl => fin _ l _ s1 nl rfl⟩
    have m4 := no1 1 c
    refine ⟨_, rfl, by show 2 ≤ sizeLine; decide, fun t2 n2 => ⟨t2, _, rfl, .inr (SqT.of upd_same), rfl, rfl, _, rfl, ite2 (fun c => ?_) (fun c => ?_)⟩⟩
    · rcases two 3 4 c (by decide) (by decide) with e | e <;> subst e <;> exact ⟨by show 2 ≤ sizeLine; decide, fun l nl => fin _ l _ (s1.trans (same_new n2)) nl rfl⟩
    have m5 := no2 3 4 c
    have s2 := s1.trans (same_new (o := .tup [.str "load", .str "store"]) n2)
    refine ⟨_, rfl, by show 2 ≤ sizeLine; decide, fun t3 n3 => ⟨t3, _, rfl, .inr (SqT.of upd_same), rfl, rfl, _, rfl, ite2 (fun c => ?_) (fun c => ?_)⟩⟩
    · rcases two 7 11 c (by decide) (by decide) with e | e <;> subst e <;> exact ⟨by show 1 ≤ sizeLine; decide, fun l nl => fin _ l _ (s2.trans (same_new n3)) nl rfl⟩
    have m6 := no2 7 11 c
    have s3 := s2.trans (same_new (o := .tup [.str "jump", .str "link"]) n3)
    refine ⟨_, rfl, rfl, _, rfl, ite2 (fun c => ?_) (fun c => ?_)⟩
    · have := one 8 c (by decide)
      subst this
      exact ⟨by show 2 ≤ sizeLine; decide, fun l nl => fin _ l _ s3 nl rfl⟩
    have m7 := no1 8 c
    refine ⟨_, rfl, rfl, _, rfl, ite2 (fun c => ?_) (fun c => ?_)⟩
    · have := one 9 c (by decide)
      subst this
      exact ⟨by show 2 ≤ sizeLine; decide, fun l nl => fin _ l _ s3 nl rfl⟩
    have m8 := no1 9 c
    refine ⟨_, rfl, rfl, _, rfl, ite2 (fun c => ?_) (fun c => ?_)⟩
    · have := one 10 c (by decide)
      subst this
      exact ⟨by show 2 ≤ sizeLine; decide, fun l nl => fin _ l _ s3 nl rfl⟩
    have m9 := no1 10 c
    refine ⟨_, rfl, by show 2 ≤ sizeLine; decide, fun t4 n4 => ⟨t4, _, rfl, .inr (SqT.of upd_same), rfl, rfl, _, rfl, ite2 (fun c => ?_) (fun c => ?_)⟩⟩
    · rcases two 14 15 c (by decide) (by decide) with e | e <;> subst e <;> exact ⟨by show 1 ≤ sizeLine; decide, fun l nl => fin _ l _ (s3.trans (same_new n4)) nl rfl⟩
    have m10 := no2 14 15 c
    have s4 := s3.trans (same_new (o := .tup [.str "enter", .str "leave"]) n4)
    refine ⟨_, rfl, by show 2 ≤ sizeLine; decide, fun t5 n5 => ⟨t5, _, rfl, .inr (SqT.of upd_same), rfl, rfl, _, rfl, ite2 (fun c => ?_) (fun c => ?_)⟩⟩
    · rcases two 16 17 c (by decide) (by decide) with e | e <;> subst e <;> exact ⟨by show 2 ≤ sizeLine; decide, fun l nl => fin _ l _ (s4.trans (same_new n5)) nl rfl⟩
    have m11 := no2 16 17 c
    have s5 := s4.trans (same_new (o := .tup [.str "in", .str "out"]) n5)
    have last : at_ = 12 ∨ at_ = 13 ∨ at_ = 18 ∨ at_ = 19 := by omega
    exact ⟨by show 0 ≤ sizeLine; decide, fun l nl => fin _ l _ s5 nl (by rcases last with e | e | e | e <;> subst e <;> rfl)⟩
def sp__law_range : Sp := fun vs H Q _ => ∃ x : Prt, vs = [.str (kn x)] ∧ x ≠ .k ∧ ∀ H' t, Same H H' → H t = none → H' t = some (.tup [.int (lo x), .int (hi x)]) → Q (.ref t) H'
theorem ok__law_range (T : Top P w K mg) : FnOk P w K mg base CX0 1 T.a__law_range T.d__law_range ["kind"]  sp__law_range := by
  refine T.F__law_range.ok sc__law_range (fun vs H Q E h => ?_) (fun cdv A outer s H vs Q E hr h => ?_)
  · obtain ⟨_, rfl, _⟩ := h
    rfl
  · obtain ⟨x, rfl, hx, q⟩ := h
    refine ⟨_, (pss_cons (ps_if (pt_cmpR op_in_seq (pv 0) (pe_tup (pa_cons pe_str (pa_cons pe_str (pa_cons pe_str pa_nil)))) (by with_unfolding_all rfl))
  (pss_one (ps_ret (pe_tup (pa_cons pe_int (pa_cons pe_int pa_nil)))))
  pss_nil)
  (pss_cons (ps_if (pt_cmpR op_eq (pv 0) pe_str (nomark _))
  (pss_one (ps_ret (pe_tup (pa_cons (pe_un un_neg pe_int) (pa_cons pe_int pa_nil)))))
  pss_nil)
  (pss_cons (ps_if (pt_cmpR op_eq (pv 0) pe_str (nomark _))
  (pss_one (ps_ret (pe_tup (pa_cons pe_int (pa_cons pe_int pa_nil)))))
  pss_nil)
  (pss_cons (ps_if (pt_cmpR op_eq (pv 0) pe_str (nomark _))
  (pss_one (ps_ret (pe_tup (pa_cons pe_int (pa_cons pe_int pa_nil)))))
  pss_nil)
  (pss_cons (ps_if (pt_cmpR op_eq (pv 0) pe_str (nomark _))
  (pss_one (ps_ret (pe_tup (pa_cons pe_int (pa_cons pe_int pa_nil)))))
  pss_nil)
  (pss_cons (ps_if (pt_cmpR op_eq (pv 0) pe_str (nomark _))
  (pss_one (ps_ret (pe_tup (pa_cons pe_int (pa_cons pe_int pa_nil)))))
  pss_nil)
  (pss_cons (ps_if (pt_cmpR op_eq (pv 0) pe_str (nomark _))
  (pss_one (ps_ret (pe_tup (pa_cons pe_int (pa_cons pe_int pa_nil)))))
  pss_nil)
  (pss_cons (ps_if (pt_cmpR op_eq (pv 0) pe_str (nomark _))
  (pss_one (ps_ret (pe_tup (pa_cons pe_int (pa_cons pe_int pa_nil)))))
  pss_nil)
  (pss_one (ps_ret (pe_tup (pa_cons pe_int (pa_cons pe_int pa_nil))))))))))))), ?_⟩
    have fin : ∀ (H1 : Hp) (l : Addr) (a b : Int), Same H H1 → H1 l = none → a = lo x → b = hi x → Q (.ref l) (upd H1 l (.tup [.int a, .int b])) := fun H1 l a b s1 n1 e1 e2 => q _ l (s1.trans (same_new n1)) (s1.free n1) (by rw [e1, e2]; exact upd_same)
    refine ⟨_, rfl, by show 3 ≤ sizeLine; decide, fun t1 n1 => ⟨t1, _, rfl, .inr (SqT.of upd_same), rfl, rfl, _, rfl, ?_⟩⟩
    have s1 : Same H (upd H t1 (.tup [.str "r", .str "s", .str "t"])) := same_new n1
    have step : ∀ {a b : Str} {A B : Prop}, (¬ a = b → B) → (a = b → A) → if decide (V.str a = V.str b) = true then A else B := fun h1 h2 => ite2 (fun c => h2 (V.str.inj (of_decide_eq_true c))) (fun c => h1 (fun e => c (decide_eq_true (by rw [e]))))
    by_cases h3 : x = .r ∨ x = .s ∨ x = .t
    · refine if_t (by rcases h3 with rfl | rfl | rfl <;> decide +kernel) ⟨by show 2 ≤ sizeLine; decide, fun l nl => fin _ l _ _ s1 nl ?_ ?_⟩
      · rcases h3 with rfl | rfl | rfl <;> rfl
      · rcases h3 with rfl | rfl | rfl <;> rfl
    refine if_f (by rw [not_or, not_or] at h3; cases x <;> first | exact absurd rfl h3.1 | exact absurd rfl h3.2.1 | exact absurd rfl h3.2.2 | decide +kernel) ?_
    refine ⟨_, rfl, rfl, _, rfl, step (fun c => ?_) (fun c => ?_)⟩
    rotate_left
    · have : x = .sg := by cases x <;> first | rfl | exact absurd c (by decide +kernel)
      subst this
      exact ⟨_, rfl, by show 2 ≤ sizeLine; decide, fun l nl => fin _ l _ _ s1 nl rfl rfl⟩
    refine ⟨_, rfl, rfl, _, rfl, step (fun c2 => ?_) (fun c2 => ?_)⟩
    rotate_left
    · have : x = .up := by cases x <;> first | rfl | exact absurd c2 (by decide +kernel)
      subst this
      exact ⟨by show 2 ≤ sizeLine; decide, fun l nl => fin _ l _ _ s1 nl rfl rfl⟩
    refine ⟨_, rfl, rfl, _, rfl, step (fun c3 => ?_) (fun c3 => ?_)⟩
    rotate_left
    · have : x = .a := by cases x <;> first | rfl | exact absurd c3 (by decide +kernel)
      subst this
      exact ⟨by show 2 ≤ sizeLine; decide, fun l nl => fin _ l _ _ s1 nl rfl rfl⟩
    refine ⟨_, rfl, rfl, _, rfl, step (fun c4 => ?_) (fun c4 => ?_)⟩
    rotate_left
    · have : x = .ce ∨ x = .ro := by cases x <;> first | exact .inl rfl | exact .inr rfl | exact absurd c4 (by decide +kernel)
      refine ⟨by show 2 ≤ sizeLine; decide, fun l nl => fin _ l _ _ s1 nl ?_ ?_⟩
      · rcases this with rfl | rfl <;> rfl
      · rcases this with rfl | rfl <;> rfl
    refine ⟨_, rfl, rfl, _, rfl, step (fun c5 => ?_) (fun c5 => ?_)⟩
    rotate_left
    · have : x = .p := by cases x <;> first | rfl | exact absurd c5 (by decide +kernel)
      subst this
      exact ⟨by show 2 ≤ sizeLine; decide, fun l nl => fin _ l _ _ s1 nl rfl rfl⟩
    refine ⟨_, rfl, rfl, _, rfl, step (fun c6 => ?_) (fun c6 => ?_)⟩
    rotate_left
    · have : x = .c := by cases x <;> first | rfl | exact absurd c6 (by decide +kernel)
      subst this
      exact ⟨by show 2 ≤ sizeLine; decide, fun l nl => fin _ l _ _ s1 nl rfl rfl⟩
    refine ⟨_, rfl, rfl, _, rfl, step (fun c7 => ?_) (fun c7 => ?_)⟩
    rotate_left
    · have : x = .o := by cases x <;> first | rfl | exact absurd c7 (by decide +kernel)
      subst this
      exact ⟨by show 2 ≤ sizeLine; decide, fun l nl => fin _ l _ _ s1 nl rfl rfl⟩
    have : x = .q := by
      cases x <;> first | rfl | exact absurd rfl hx | exact absurd (.inl rfl) h3 | exact absurd (.inr (.inl rfl)) h3 | exact absurd (.inr (.inr rfl)) h3 | exact absurd rfl c | exact absurd rfl c2 | exact absurd rfl c3 | exact absurd rfl c4 | exact absurd rfl c5 | exact absurd rfl c6 | exact absurd rfl c7
    subst this
    exact ⟨by show 2 ≤ sizeLine; decide, fun l nl => fin _ l _ _ s1 nl rfl rfl⟩
end

section
variable {P : Program} {w : World} {K : PySem.W.Frag} {mg : Str → Option Value} {base : Heap}
theorem kn_k {x : Prt} (h : kn x = "k") : x = .k := by cases x <;> first | rfl | exact absurd h (by decide +kernel)
theorem lo_le (x : Prt) : lo x ≤ hi x := by cases x <;> decide
theorem hi_small (x : Prt) : hi x - lo x + 1 ≤ 65536 := by cases x <;> decide
def sp__law_item : Sp := fun vs H Q _ => ∃ (p c : Addr) (x : Prt), vs = [.ref p, .str (kn x)] ∧ StOk H p c ∧ ∀ (v : V) (H' : Hp), ItemOk x v → StOk H' p c → Keep p H H' → Q v H'
theorem ok__law_item (T : Top P w K mg) : FnOk P w K mg base CX0 2 T.a__law_item T.d__law_item ["state", "kind"]  sp__law_item := by
  refine T.F__law_item.ok sc__law_item (fun vs H Q E h => ?_) (fun cdv A outer s H vs Q E hr h => ?_)
  · obtain ⟨_, _, _, rfl, _⟩ := h
    rfl
  · obtain ⟨p, c, x, rfl, st, q⟩ := h
    refine ⟨_, (pss_cons (ps_if (pt_cmpR op_eq (pv 1) pe_str (nomark _))
  (pss_one (ps_ret (pe_call (ok__law_operation T) (hr.mono (by decide)) (by rfl) T.g__law_operation T.F__law_operation.kp T.b__law_operation .nil pass0 (pa_cons (pe_call (ok__law_draw T) (hr.mono (by decide)) (by rfl) T.g__law_draw T.F__law_draw.kp T.b__law_draw .nil pass0 (pa_cons (pv 0) (pa_cons pe_int pa_nil))) pa_nil))))
  pss_nil)
  (pss_cons (ps_asg (pe_call (ok__law_range T) (hr.mono (by decide)) (by rfl) T.g__law_range T.F__law_range.kp T.b__law_range .nil pass0 (pa_cons (pv 1) pa_nil)) (pg_tup rfl (pgs_cons (pg_name (i := 2) sc__law_item.nd rfl (by first | exact Or.inl rfl | exact Or.inr rfl)) (pgs_cons (pg_name (i := 3) sc__law_item.nd rfl (by first | exact Or.inl rfl | exact Or.inr rfl)) pgs_nil))))
  (pss_cons (ps_set (i := 4) sc__law_item.nd rfl (by first | exact Or.inl rfl | exact Or.inr rfl) (pe_call (ok__law_draw T) (hr.mono (by decide)) (by rfl) T.g__law_draw T.F__law_draw.kp T.b__law_draw .nil pass0 (pa_cons (pv 0) (pa_cons pe_int pa_nil))))
  (pss_cons (ps_if (pt_cmpR op_eq (pv 4) pe_int (nomark _))
  (pss_one (ps_ret (pv 2)))
  pss_nil)
  (pss_cons (ps_if (pt_cmpR op_eq (pv 4) pe_int (nomark _))
  (pss_one (ps_ret (pv 3)))
  pss_nil)
  (pss_cons (ps_if (pt_cmpR op_eq (pv 4) pe_int (nomark _))
  (pss_one (ps_ret (pe_op op_sub (pv 2) pe_int)))
  pss_nil)
  (pss_cons (ps_if (pt_cmpR op_eq (pv 4) pe_int (nomark _))
  (pss_one (ps_ret (pe_op op_add (pv 3) pe_int)))
  pss_nil)
  (pss_one (ps_ret (pe_op op_add (pv 2) (pe_call (ok__law_draw T) (hr.mono (by decide)) (by rfl) T.g__law_draw T.F__law_draw.kp T.b__law_draw .nil pass0 (pa_cons (pv 0) (pa_cons (pe_op op_add (pe_op op_sub (pv 3) (pv 2)) pe_int) pa_nil))))))))))))), ?_⟩
    refine ⟨_, rfl, rfl, _, rfl, ite2 (fun cc => ?_) (fun cc => ?_)⟩
    · have hx := kn_k (V.str.inj (of_decide_eq_true cc))
      refine ⟨_, rfl, p, c, 19, rfl, st, by decide, by decide, fun v H1 v0 v1 st1 k1 => ?_⟩
      obtain ⟨j, ej⟩ : ∃ j : Nat, v = (j : Int) := ⟨v.toNat, by omega⟩
      subst ej
      have hj : j < CALC19.length := by show j < 19; omega
      exact ⟨j, CALC19[j], rfl, List.getElem?_eq_getElem hj, fun H2 s2 => q _ H2 (.inl ⟨hx, _, rfl, List.getElem_mem hj⟩) (st1.same s2) (k1.trans (Keep.same s2))⟩
    · have hx : x ≠ .k := fun e => cc (by rw [e]; exact decide_eq_true rfl)
      refine ⟨_, rfl, x, rfl, hx, fun H1 t s1 nt ht => ?_⟩
      refine ⟨t, _, rfl, SqT.of ht, rfl, _, _, rfl, _, _, rfl, rfl, ?_⟩
      have st1 := st.same s1
      have fin : ∀ (n : Int) (H2 : Hp), StOk H2 p c → Keep p H1 H2 → Q (.int n) H2 := fun n H2 s2 k2 => q _ H2 (.inr ⟨hx, n, rfl⟩) s2 ((Keep.same s1).trans k2)
      refine ⟨_, rfl, p, c, 11, rfl, st1, by decide, by decide, fun u H2 u0 u1 st2 k2 => ?_⟩
      refine ⟨_, rfl, rfl, _, rfl, ite2 (fun c1 => ⟨_, rfl, fin _ H2 st2 k2⟩) (fun c1 => ?_)⟩
      refine ⟨_, rfl, rfl, _, rfl, ite2 (fun c1 => ⟨_, rfl, fin _ H2 st2 k2⟩) (fun c1 => ?_)⟩
      refine ⟨_, rfl, rfl, _, rfl, ite2 (fun c1 => ⟨_, rfl, _, _, rfl, rfl, fin _ H2 st2 k2⟩) (fun c1 => ?_)⟩
      refine ⟨_, rfl, rfl, _, rfl, ite2 (fun c1 => ⟨_, rfl, _, _, rfl, rfl, fin _ H2 st2 k2⟩) (fun c1 => ?_)⟩
      have a1 := lo_le x
      have a2 := hi_small x
      exact ⟨_, rfl, _, rfl, _, rfl, _, rfl, _, _, rfl, rfl, _, _, rfl, rfl, p, c, hi x - lo x + 1, rfl, st2, by omega, by omega, fun y H3 _ _ st3 k3 => ⟨_, _, rfl, rfl, fin _ H3 st3 (k2.trans k3)⟩⟩
theorem calc19 {z : Str} (h : z ∈ CALC19) : decide (z ∈ CALC) = !(decide (z = "sar") || decide (z = "not")) := by
  have : ∀ i : Fin 19, decide (CALC19.getD i.val "" ∈ CALC) = !(decide (CALC19.getD i.val "" = "sar") || decide (CALC19.getD i.val "" = "not")) := by decide +kernel
  obtain ⟨j, hj⟩ := List.getElem?_of_mem h
  have hl : j < 19 := (List.getElem?_eq_some_iff.mp hj).1
  have q := this ⟨j, hl⟩
  have e : CALC19.getD j "" = z := by rw [List.getD_eq_getElem?_getD, hj]; rfl
  rw [e] at q
  exact q
def sp__law_right : Sp := fun vs H Q _ => ∃ (x : Prt) (v : V), vs = [.str (kn x), v] ∧ ItemOk x v ∧ ∀ H', Same H H' → Q (.bl (inR x v)) H'
theorem ok__law_right (T : Top P w K mg) : FnOk P w K mg base CX0 2 T.a__law_right T.d__law_right ["kind", "item"]  sp__law_right := by
  refine T.F__law_right.ok sc__law_right (fun vs H Q E h => ?_) (fun cdv A outer s H vs Q E hr h => ?_)
  · obtain ⟨_, _, rfl, _⟩ := h
    rfl
  · obtain ⟨x, v, rfl, hv, q⟩ := h
    refine ⟨_, (pss_cons (ps_if (pt_cmpR op_eq (pv 0) pe_str (nomark _))
  (pss_one (ps_ret (pe_cmpR op_notIn_seq (pv 1) (pe_tup (pa_cons pe_str (pa_cons pe_str pa_nil))) (by with_unfolding_all rfl))))
  pss_nil)
  (pss_cons (ps_asg (pe_call (ok__law_range T) (hr.mono (by decide)) (by rfl) T.g__law_range T.F__law_range.kp T.b__law_range .nil pass0 (pa_cons (pv 0) pa_nil)) (pg_tup rfl (pgs_cons (pg_name (i := 2) sc__law_right.nd rfl (by first | exact Or.inl rfl | exact Or.inr rfl)) (pgs_cons (pg_name (i := 3) sc__law_right.nd rfl (by first | exact Or.inl rfl | exact Or.inr rfl)) pgs_nil))))
  (pss_one (ps_ret (pe_and (pe_cmpR op_le (pv 2) (pv 1) (nomark _)) (pe_one (pe_cmpR op_le (pv 1) (pv 3) (nomark _)))))))), ?_⟩
    rcases hv with ⟨rfl, z, rfl, hz⟩ | ⟨hx, n, rfl⟩
    · refine ⟨_, rfl, rfl, _, rfl, if_t rfl ?_⟩
      refine ⟨_, rfl, by show 2 ≤ sizeLine; decide, fun t nt => ⟨t, _, rfl, .inr (SqT.of upd_same), rfl, rfl, ?_⟩⟩
      have := q _ (same_new (o := .tup [.str "sar", .str "not"]) nt)
      have e : inR .k (.str z) = !(inV (.str z) [.str "sar", .str "not"]) := by
        rw [in_two]
        exact calc19 hz
      rw [e] at this
      exact this
    · refine ⟨_, rfl, rfl, _, rfl, if_f (decide_eq_false fun e => hx (kn_k (V.str.inj e))) ?_⟩
      refine ⟨_, rfl, x, rfl, hx, fun H1 t s1 nt ht => ?_⟩
      refine ⟨t, _, rfl, SqT.of ht, rfl, _, _, rfl, _, _, rfl, rfl, ?_⟩
      have := q H1 s1
      rw [inR_x hx] at this
      refine ⟨_, rfl, _, rfl, _, _, rfl, rfl, decide (lo x ≤ n), rfl, ?_⟩
      cases e : decide (lo x ≤ n) with
      | true =>
        rw [e] at this
        exact ⟨_, rfl, _, rfl, _, _, rfl, rfl, this⟩
      | false =>
        rw [e] at this
        exact this
theorem ce_at {at_ : Nat} (h : at_ < 20) (m : Prt.ce ∈ formOf at_) : at_ = 5 ∨ at_ = 6 := by
  have : ∀ i : Fin 20, Prt.ce ∈ formOf i.val → i.val = 5 ∨ i.val = 6 := by decide +kernel
  exact this ⟨at_, h⟩ m
theorem ro_at {at_ : Nat} (h : at_ < 20) (m : Prt.ro ∈ formOf at_) : at_ ≠ 5 ∧ at_ ≠ 6 := by
  have : ∀ i : Fin 20, Prt.ro ∈ formOf i.val → i.val ≠ 5 ∧ i.val ≠ 6 := by decide +kernel
  exact this ⟨at_, h⟩ m
def sp__law_part : Sp := fun vs H Q _ => ∃ (at_ : Nat) (x : Prt) (v : V), vs = [.str (nameOf at_), .str (kn x), v] ∧ at_ < 20 ∧ x ∈ formOf at_ ∧ inR x v = true ∧ ∀ H', Same H H' → Q (.int (pk x v * 2 ^ sh x)) H'
theorem ok__law_part (T : Top P w K mg) : FnOk P w K mg base CX0 2 T.a__law_part T.d__law_part ["name", "kind", "item"]  sp__law_part := by
  refine T.F__law_part.ok sc__law_part (fun vs H Q E h => ?_) (fun cdv A outer s H vs Q E hr h => ?_)
  · obtain ⟨_, _, _, rfl, _⟩ := h
    rfl
  · obtain ⟨at_, x, v, rfl, h20, hm, hv, q⟩ := h
    refine ⟨_, (pss_cons (ps_if (pt_cmpR op_eq (pv 1) pe_str (nomark _))
  (pss_one (ps_ret (pe_op op_mul (pe_bm PySem.F.plainAttrs_list PySem.F.slot_list_index PySem.F.type_list_index mt_index (pe_lc (own := [("at", 3)]) (g := gName 3) (tt := tYes) rfl sc__law_part.nd (pi_range1 (by rfl) T.m_range (pa_cons pe_int pa_nil)) (blkOk_by (N := ["name", "kind", "item", "at"]) (sc := defScope s__law_part) (by decide +kernel)) (fun _ _ _ _ _ => pg_name (i := 3) sc__law_part.nd rfl (Or.inl rfl)) (fun _ _ _ _ _ => pts_nil) (fun _ _ _ _ _ => (pe_call (ok__law_operation T) (hr.mono (by decide)) (by rfl) T.g__law_operation T.F__law_operation.kp T.b__law_operation .nil pass0 (pa_cons (pv 3) pa_nil)))) (pa_cons (pv 2) pa_nil)) pe_int)))
  pss_nil)
  (pss_cons (ps_if (pt_cmpR op_eq (pv 1) pe_str (nomark _))
  (pss_one (ps_ret (pe_op op_mul (pv 2) pe_int)))
  pss_nil)
  (pss_cons (ps_if (pt_cmpR op_eq (pv 1) pe_str (nomark _))
  (pss_one (ps_ret (pe_op op_mul (pv 2) pe_int)))
  pss_nil)
  (pss_cons (ps_if (pt_cmpR op_eq (pv 1) pe_str (nomark _))
  (pss_one (ps_ret (pe_op op_mul (pv 2) pe_int)))
  pss_nil)
  (pss_cons (ps_if (pt_cmpR op_eq (pv 1) pe_str (nomark _))
  (pss_one (ps_ret (pe_op op_mul (pv 2) pe_int)))
  pss_nil)
  (pss_cons (ps_if (pt_cmpR op_eq (pv 1) pe_str (nomark _))
  (pss_one (ps_ret (pe_op op_mul (pe_op op_sub (pv 2) pe_int) (pe_ifExp (pt_cmpR op_in_seq (pv 0) (pe_tup (pa_cons pe_str (pa_cons pe_str pa_nil))) (by with_unfolding_all rfl)) pe_int pe_int))))
  pss_nil)
  (pss_cons (ps_if (pt_cmpR op_eq (pv 1) pe_str (nomark _))
  (pss_one (ps_ret (pe_ifExp (pt_cmpR op_lt (pv 2) pe_int (nomark _)) (pe_op op_add (pv 2) pe_int) (pv 2))))
  pss_nil)
  (pss_one (ps_ret (pv 2)))))))))), ?_⟩
    by_cases hk : x = .k
    · subst hk
      obtain ⟨z, rfl, hz⟩ := inR_str hv
      obtain ⟨j, hj, j1, j2, j3⟩ := calc_idx hz
      refine ⟨_, rfl, rfl, _, rfl, if_t rfl ?_⟩
      refine ⟨17, rfl, by decide, by decide, fun D nD => ?_⟩
      refine lc_range (n := 17) (fun i H' => H' D = some (.lst ((CALC.take i).map V.str)) ∧ Same H H') ⟨upd_same, same_new nD⟩ ?_ ?_
      · rintro i H' hi ⟨hD, sm⟩
        refine ⟨rfl, ?_⟩
        have hc : CALC[i]? = some (CALC[i]'hi) := List.getElem?_eq_getElem hi
        refine ⟨_, rfl, i, CALC[i]'hi, by rw [Int.zero_add]; rfl, by rw [calc_mem hi]; exact hc, fun H2 s2 => ?_⟩
        refine ⟨_, s2 _ _ hD, ?_, ?_, ?_⟩
        · have := List.length_take_le i CALC
          rw [List.length_map]
          exact small1000 (by omega)
        · rw [upd_same, List.take_add_one, hc, List.map_append]
          rfl
        · intro b o e
          rw [upd_ne (ne_of_none e nD)]
          exact s2 _ _ (sm b o e)
      · rintro H' ⟨hD, sm⟩
        have e17 : CALC.take 17 = CALC := rfl
        rw [e17] at hD
        refine ⟨.inl ⟨rfl, _, SqL.of hD⟩, _, rfl, D, CALC.map V.str, .str z, j, .str z, rfl, rfl, SqL.of hD, rfl, by decide +kernel, by rw [List.getElem?_map, j1]; rfl, beq_self_eq_true z, ?_, ?_⟩
        · intro m z' hm2 hz'
          rw [List.getElem?_map] at hz'
          cases e : CALC[m]? with
          | none => rw [e] at hz'; cases hz'
          | some y =>
            rw [e] at hz'
            cases hz'
            refine beq_eq_false_iff_ne.mpr fun ey => j2 m hm2 ?_
            rw [e, ey]
        · refine ⟨_, _, rfl, rfl, .inl ⟨by omega, by omega⟩, ?_⟩
          have := q H' sm
          have e : pk .k (.str z) * 2 ^ sh .k = (j : Int) * 8192 := by
            show (CALC.idxOf z : Int) * 2 ^ 13 = _
            rw [j3]
            rfl
          rw [e] at this
          exact this
    obtain ⟨n, rfl⟩ := inR_int hk hv
    have bn : -65536 ≤ n ∧ n ≤ 65536 := by
      rw [inR_x hk, Bool.and_eq_true, decide_eq_true_eq, decide_eq_true_eq] at hv
      have : -65536 ≤ lo x ∧ hi x ≤ 65536 := by cases x <;> decide
      omega
    have q0 := q H (Same.refl _)
    refine ⟨_, rfl, rfl, _, rfl, if_f (decide_eq_false fun e => hk (kn_k (V.str.inj e))) ?_⟩
    have step : ∀ {a b : Str} {A B : Prop}, (¬ a = b → B) → (a = b → A) → if decide (V.str a = V.str b) = true then A else B := fun h1 h2 => ite2 (fun c => h2 (V.str.inj (of_decide_eq_true c))) (fun c => h1 (fun e => c (decide_eq_true (by rw [e]))))
    refine ⟨_, rfl, rfl, _, rfl, step (fun c1 => ?_) (fun c1 => ?_)⟩
    rotate_left
    · have : x = .r := by cases x <;> first | rfl | exact absurd c1 (by decide +kernel)
      subst this
      exact ⟨_, rfl, _, _, rfl, rfl, .inl ⟨by omega, by omega⟩, q0⟩
    refine ⟨_, rfl, rfl, _, rfl, step (fun c2 => ?_) (fun c2 => ?_)⟩
    rotate_left
    · have : x = .s := by cases x <;> first | rfl | exact absurd c2 (by decide +kernel)
      subst this
      exact ⟨_, rfl, _, _, rfl, rfl, .inl ⟨by omega, by omega⟩, q0⟩
    refine ⟨_, rfl, rfl, _, rfl, step (fun c3 => ?_) (fun c3 => ?_)⟩
    rotate_left
    · have : x = .t := by cases x <;> first | rfl | exact absurd c3 (by decide +kernel)
      subst this
      exact ⟨_, rfl, _, _, rfl, rfl, .inl ⟨by omega, by omega⟩, q0⟩
    refine ⟨_, rfl, rfl, _, rfl, step (fun c4 => ?_) (fun c4 => ?_)⟩
    rotate_left
    · have : x = .c := by cases x <;> first | rfl | exact absurd c4 (by decide +kernel)
      subst this
      exact ⟨_, rfl, _, _, rfl, rfl, .inl ⟨by omega, by omega⟩, q0⟩
    refine ⟨_, rfl, rfl, _, rfl, step (fun c5 => ?_) (fun c5 => ?_)⟩
    rotate_left
    · refine ⟨_, rfl, _, _, rfl, rfl, _, rfl, by show 2 ≤ sizeLine; decide, fun t nt => ⟨t, _, rfl, .inr (SqT.of upd_same), rfl, rfl, _, rfl, ?_⟩⟩
      rw [in_two]
      have q1 := q _ (same_new (o := .tup [.str "loadx", .str "storex"]) nt)
      have : x = .ce ∨ x = .ro := by cases x <;> first | exact .inl rfl | exact .inr rfl | exact absurd c5 (by decide +kernel)
      rcases this with rfl | rfl
      · refine if_t ?_ ⟨_, _, rfl, rfl, .inl ⟨by omega, by omega⟩, q1⟩
        rcases ce_at h20 hm with e | e <;> subst e <;> decide +kernel
      · obtain ⟨m1, m2⟩ := ro_at h20 hm
        refine if_f ?_ ⟨_, _, rfl, rfl, .inl ⟨by omega, by omega⟩, q1⟩
        show (decide (nameOf at_ = "loadx") || decide (nameOf at_ = "storex")) = false
        rw [Bool.or_eq_false_iff]
        exact ⟨decide_eq_false fun e => m1 (name_is h20 (by decide) (j := 5) e), decide_eq_false fun e => m2 (name_is h20 (by decide) (j := 6) e)⟩
    refine ⟨_, rfl, rfl, _, rfl, step (fun c6 => ?_) (fun c6 => ?_)⟩
    rotate_left
    · have : x = .sg := by cases x <;> first | rfl | exact absurd c6 (by decide +kernel)
      subst this
      rw [inR_x hk, Bool.and_eq_true, decide_eq_true_eq, decide_eq_true_eq] at hv
      simp only [lo, hi] at hv
      have ep : ∀ m : Int, m = n % 65536 → pk .sg (.int n) * 2 ^ sh .sg = m := fun m e => by
        show n % 65536 * 1 = m
        omega
      refine ⟨_, rfl, _, _, rfl, rfl, _, rfl, ite2 (fun c => ?_) (fun c => ?_)⟩
      · have := of_decide_eq_true c
        rw [ep (n + 65536) (by omega)] at q0
        exact ⟨_, rfl, _, _, rfl, rfl, q0⟩
      · have h : ¬ n < 0 := fun h => c (decide_eq_true h)
        rw [ep n (by omega)] at q0
        exact ⟨_, rfl, q0⟩
    refine ⟨_, rfl, ?_⟩
    have e : pk x (.int n) * 2 ^ sh x = n := by
      cases x <;> first | exact absurd rfl hk | exact absurd rfl c1 | exact absurd rfl c2 | exact absurd rfl c3 | exact absurd rfl c4 | exact absurd rfl c5 | exact absurd rfl c6 | exact Int.mul_one n
    rw [e] at q0
    exact q0
end

section
variable {P : Program} {w : World} {K : PySem.W.Frag} {mg : Str → Option Value} {base : Heap}
theorem allR_snoc {at_ i : Nat} {items : List V} {x : Prt} {v : V} (hx : (formOf at_)[i]? = some x) (hv : items[i]? = some v) :
    (((formOf at_).zip items).take (i + 1)).all (fun p => inR p.1 p.2) = ((((formOf at_).zip items).take i).all (fun p => inR p.1 p.2) && inR x v) := by
  rw [List.take_add_one, zip_at hx hv, List.all_append]
  simp
theorem insOk_len {at_ : Nat} {items : List V} (h : items.length ≠ (formOf at_).length) : insOk at_ items = false := by
  unfold insOk
  rw [decide_eq_false h, Bool.false_and, Bool.and_false]
def sp__law_instruction (K : PySem.W.Frag) : Sp := fun vs H Q _ => ∃ (p c : Addr), vs = [.ref p] ∧ StOk H p c ∧
  ∀ (at_ : Nat) (items : List V) (word : Int) (H' : Hp) (r t : Addr), at_ < 20 → (∀ v ∈ items, Itm v) → items.length ≤ 5 → (insOk at_ items = true → word = enc at_ items) → StOk H' p c → H' t = some (.tup (.str (nameOf at_) :: items)) → H' r = some (.tup [.ref t, .bl (insOk at_ items), .int word]) → Q (.ref r) H'
theorem cut_last {xs : List V} (h : xs ≠ []) : (cutV xs none (some (-1))).length = xs.length - 1 ∧ ∀ v ∈ cutV xs none (some (-1)), v ∈ xs := by
  have hl : 0 < xs.length := List.length_pos_iff.mpr h
  have e2 : HT.sIx xs.length xs.length (some (-1)) = xs.length - 1 := by
    simp [HT.sIx]
    omega
  unfold cutV
  rw [e2]
  have e1 : HT.sIx xs.length 0 none = 0 := rfl
  rw [e1]
  constructor
  · rw [List.length_take, List.length_drop]
    omega
  · intro v hv
    exact List.mem_of_mem_drop (List.mem_of_mem_take hv)
theorem ok__law_instruction (T : Top P w K mg) : FnOk P w K mg base CX0 3 T.a__law_instruction T.d__law_instruction ["state"]  (sp__law_instruction K) := by
  refine T.F__law_instruction.ok sc__law_instruction (fun vs H Q E h => ?_) (fun cdv A outer s H vs Q E hr h => ?_)
  · obtain ⟨_, _, rfl, _⟩ := h
    rfl
  · obtain ⟨p, c, rfl, st, q⟩ := h
    refine ⟨_, (pss_cons (ps_set (i := 1) sc__law_instruction.nd rfl (by first | exact Or.inl rfl | exact Or.inr rfl) (pe_call (ok__law_draw T) (hr.mono (by decide)) (by rfl) T.g__law_draw T.F__law_draw.kp T.b__law_draw .nil pass0 (pa_cons (pv 0) (pa_cons pe_int pa_nil))))
  (pss_cons (ps_set (i := 2) sc__law_instruction.nd rfl (by first | exact Or.inl rfl | exact Or.inr rfl) (pe_call (ok__law_name T) (hr.mono (by decide)) (by rfl) T.g__law_name T.F__law_name.kp T.b__law_name .nil pass0 (pa_cons (pv 1) pa_nil)))
  (pss_cons (ps_set (i := 3) sc__law_instruction.nd rfl (by first | exact Or.inl rfl | exact Or.inr rfl) (pe_call (ok__law_kinds T) (hr.mono (by decide)) (by rfl) T.g__law_kinds T.F__law_kinds.kp T.b__law_kinds .nil pass0 (pa_cons (pv 2) pa_nil)))
  (pss_cons (ps_setLc (i := 4) (own := [("kind", 5)]) (g := gName 5) (tt := tYes) rfl sc__law_instruction.nd rfl rfl (sw_true rfl rfl rfl (by decide +kernel)) (pi_list (pv 3)) (blkOk_by (N := ["state", "at", "name", "kinds", "items", "kind", "valid", "word", "k", "turn"]) (sc := defScope s__law_instruction) (by decide +kernel)) (fun _ _ _ _ _ => pg_name (i := 5) sc__law_instruction.nd rfl (Or.inl rfl)) (fun _ _ _ _ _ => pts_nil) (fun _ _ _ _ _ => (pe_call (ok__law_item T) (hr.mono (by decide)) (by rfl) T.g__law_item T.F__law_item.kp T.b__law_item .nil pass0 (pa_cons (pv 0) (pa_cons (pv 5) pa_nil)))))
  (pss_cons (ps_set (i := 6) sc__law_instruction.nd rfl (by first | exact Or.inl rfl | exact Or.inr rfl) (pe_cmpR op_lt (pv 1) pe_int (nomark _)))
  (pss_cons (ps_set (i := 7) sc__law_instruction.nd rfl (by first | exact Or.inl rfl | exact Or.inr rfl) (pe_op op_mul (pe_op op_add (pv 1) pe_int) pe_int))
  (pss_cons (ps_for PassesOwn.never rfl (pi_range1 (by rfl) T.m_range (pa_cons (pe_callB call_len_seq (by rfl) T.m_len PySem.boot_len (pa_cons (pv 3) pa_nil)) pa_nil)) (pg_name (i := 8) sc__law_instruction.nd rfl (by first | exact Or.inl rfl | exact Or.inr rfl))
  (pss_one (ps_if (pt_not (pt_val (pe_call (ok__law_right T) (hr.mono (by decide)) (by rfl) T.g__law_right T.F__law_right.kp T.b__law_right .nil pass0 (pa_cons (pe_ix ix_list (pv 3) (pv 8) (fun _ _ => rfl)) (pa_cons (pe_ix ix_list (pv 4) (pv 8) (fun _ _ => rfl)) pa_nil)))))
  (pss_one (ps_set (i := 6) sc__law_instruction.nd rfl (by first | exact Or.inl rfl | exact Or.inr rfl) pe_bl))
  pss_nil)))
  (Evl.pss_cut (ps_if (pt_val (pv 6))
  (pss_cons (ps_for PassesOwn.never rfl (pi_range1 (by rfl) T.m_range (pa_cons (pe_callB call_len_seq (by rfl) T.m_len PySem.boot_len (pa_cons (pv 3) pa_nil)) pa_nil)) (pg_name (i := 8) sc__law_instruction.nd rfl (by first | exact Or.inl rfl | exact Or.inr rfl))
  (pss_one (ps_set (i := 7) sc__law_instruction.nd rfl (by first | exact Or.inl rfl | exact Or.inr rfl) (pe_op op_add (pv 7) (pe_call (ok__law_part T) (hr.mono (by decide)) (by rfl) T.g__law_part T.F__law_part.kp T.b__law_part .nil pass0 (pa_cons (pv 2) (pa_cons (pe_ix ix_list (pv 3) (pv 8) (fun _ _ => rfl)) (pa_cons (pe_ix ix_list (pv 4) (pv 8) (fun _ _ => rfl)) pa_nil))))))))
  (pss_one (ps_if (pt_cmpR op_in_seq (pv 2) (pe_tup (pa_cons pe_str (pa_cons pe_str pa_nil))) (by with_unfolding_all rfl))
  (pss_one (ps_set (i := 6) sc__law_instruction.nd rfl (by first | exact Or.inl rfl | exact Or.inr rfl) (pe_cmpR op_le (pe_op op_add (pe_ix ix_list (pv 4) pe_int (fun _ _ => rfl)) (pe_ix ix_list (pv 4) pe_int (fun _ _ => rfl))) pe_int (nomark _))))
  pss_nil)))
  pss_nil)
  (pss_cons (ps_set (i := 9) sc__law_instruction.nd rfl (by first | exact Or.inl rfl | exact Or.inr rfl) (pe_call (ok__law_draw T) (hr.mono (by decide)) (by rfl) T.g__law_draw T.F__law_draw.kp T.b__law_draw .nil pass0 (pa_cons (pv 0) (pa_cons pe_int pa_nil))))
  (Evl.pss_cut (ps_if (pw_and (pt_cmpR op_eq (pv 9) pe_int (nomark _)) (pw_and1 (pt_cmpR op_gt (pe_callB call_len_seq (by rfl) T.m_len PySem.boot_len (pa_cons (pv 4) pa_nil)) pe_int (nomark _)))).pt
  (pss_cons (ps_set (i := 4) sc__law_instruction.nd rfl (by first | exact Or.inl rfl | exact Or.inr rfl) (pe_slice sl_list (pv 4) po_none (po_some (pe_un un_neg pe_int))))
  (pss_one (ps_set (i := 6) sc__law_instruction.nd rfl (by first | exact Or.inl rfl | exact Or.inr rfl) pe_bl)))
  (pss_one (ps_if (pt_cmpR op_eq (pv 9) pe_int (nomark _))
  (pss_cons (ps_set (i := 4) sc__law_instruction.nd rfl (by first | exact Or.inl rfl | exact Or.inr rfl) (pe_op op_cat (pv 4) (pe_lst (pa_cons pe_int pa_nil))))
  (pss_one (ps_set (i := 6) sc__law_instruction.nd rfl (by first | exact Or.inl rfl | exact Or.inr rfl) pe_bl)))
  pss_nil)))
  (pss_one (ps_ret (pe_tup (pa_cons (pe_callTy call_tuple_of (by rfl) T.m_tuple (by decide +kernel) (pa_cons (pe_op op_cat (pe_lst (pa_cons (pv 2) pa_nil)) (pv 4)) pa_nil)) (pa_cons (pv 6) (pa_cons (pv 7) pa_nil)))))))))))))))), ?_⟩
    refine ⟨_, rfl, p, c, 20, rfl, st, by decide, by decide, fun v0 H0 b0 b1 st0 k0 => ?_⟩
    obtain ⟨at_, ea⟩ : ∃ j : Nat, v0 = (j : Int) := ⟨v0.toNat, by omega⟩
    subst ea
    have h20 : at_ < 20 := by omega
    refine ⟨_, rfl, at_, rfl, h20, fun H1 s1 => ?_⟩
    refine ⟨_, rfl, at_, rfl, h20, fun H2 kl s2 nkl hk => ?_⟩
    have st2 := (st0.same s1).same s2
    have hl4 := form_short at_
    -- the items
    refine ⟨_, rfl, kl, rfl, ⟨_, SqL.of hk⟩, fun D nD => ?_⟩
    have Dne := st2.ne nD
    have klp : kl ≠ p := by
      have := (st0.same s1).ne nkl
      exact this.1
    refine lc_list (xs := (formOf at_).map fun x => V.str (kn x)) (fun i H' => ∃ its : List V, its.length = i ∧ (∀ (j : Nat) (x : Prt) (v : V), (formOf at_)[j]? = some x → its[j]? = some v → ItemOk x v) ∧ H' D = some (.lst its) ∧ StOk H' p c ∧ Keep p H2 H')
      ⟨[], rfl, by simp, upd_same, st2.upd Dne.1 Dne.2, Keep.same (same_new nD)⟩ (fun i H' _ h => by obtain ⟨_, _, _, _, _, k⟩ := h; exact SqL.of (k _ _ klp hk)) ?_ ?_
    · rintro i y H' hi ⟨its, e1, e2, e3, e4, e5⟩
      obtain ⟨x, hx, rfl⟩ : ∃ x, (formOf at_)[i]? = some x ∧ V.str (kn x) = y := by
        rw [List.getElem?_map] at hi
        cases e : (formOf at_)[i]? with
        | none => rw [e] at hi; cases hi
        | some x => rw [e] at hi; exact ⟨x, rfl, Option.some.inj hi⟩
      have hil := (List.getElem?_eq_some_iff.mp hx).1
      refine ⟨rfl, ?_⟩
      refine ⟨_, rfl, _, rfl, p, c, x, rfl, e4, fun v H3 io st3 k3 => ?_⟩
      refine ⟨its, k3 _ _ Dne.1 e3, ?_, its ++ [v], ?_, ?_, upd_same, st3.upd Dne.1 Dne.2, ?_⟩
      · rw [e1]
        exact small1000 (by omega)
      · rw [List.length_append, e1]
        rfl
      · intro j x2 v2 hx2 hv2
        rw [List.getElem?_append] at hv2
        split at hv2
        · exact e2 j x2 v2 hx2 hv2
        · have := (List.getElem?_eq_some_iff.mp hv2).1
          simp at this
          have ej : j = i := by omega
          subst ej
          rw [hx] at hx2
          cases hx2
          rw [e1, Nat.sub_self] at hv2
          cases hv2
          exact io
      · intro b o nb e
        rw [upd_ne (ne_of_none e nD)]
        exact k3 _ _ nb (e5 _ _ nb e)
    rintro H3 ⟨items, el, hio, hD, st3, k3⟩
    rw [List.length_map] at el
    have hk3 := k3 _ _ klp hk
    have hI : ∀ v ∈ items, Itm v := fun v m => by
      obtain ⟨j, hj⟩ := List.getElem?_of_mem m
      have hjl := (List.getElem?_eq_some_iff.mp hj).1
      exact (hio j _ v (List.getElem?_eq_getElem (by omega)) hj).itm
    -- valid, word
    refine ⟨_, rfl, _, _, rfl, rfl, ?_⟩
    refine ⟨_, rfl, _, _, rfl, rfl, _, _, rfl, rfl, .inl ⟨by omega, by omega⟩, ?_⟩
    have klen : ((((formOf at_).map fun x => V.str (kn x)).length : Nat) : Int).toNat = (formOf at_).length := by rw [List.length_map]; omega
    have atk : ∀ {i : Nat} {x : Prt}, (formOf at_)[i]? = some x → atI ((formOf at_).map fun x => V.str (kn x)) (0 + (i : Int)) = some (.str (kn x)) := fun {i x} hx => at_of (j := i) (by omega) (by rw [List.getElem?_map, hx]; rfl)
    have ati : ∀ {i : Nat} {v : V}, items[i]? = some v → atI items (0 + (i : Int)) = some v := fun {i v} hv => at_of (j := i) (by omega) hv
    refine ⟨_, rfl, kl, _, rfl, .inl (SqL.of hk3), _, rfl, (by rw [List.length_map]; omega), (by rw [List.length_map]; omega), for_range (n := ((((formOf at_).map fun x => V.str (kn x)).length : Nat) : Int).toNat) (fun i σ H' => ∃ y5 y8, σ = [some (.ref p), some (.int at_), some (.str (nameOf at_)), some (.ref kl), some (.ref D), y5, some (.bl (decide ((at_ : Int) < 18) && (((formOf at_).zip items).take i).all (fun p => inR p.1 p.2))), some (.int (((at_ : Int) + 1) * 1073741824)), y8, none] ∧ Same H3 H')
      ⟨none, none, ?_, Same.refl _⟩ ?_ ?_⟩
    · rw [show (((formOf at_).zip items).take 0).all (fun p => inR p.1 p.2) = true from rfl, Bool.and_true]
      rfl
    · rintro i σ H' hi ⟨y5, y8, rfl, sm⟩
      rw [klen] at hi
      obtain ⟨x, hx⟩ : ∃ x, (formOf at_)[i]? = some x := ⟨_, List.getElem?_eq_getElem hi⟩
      obtain ⟨v, hv⟩ : ∃ v, items[i]? = some v := ⟨_, List.getElem?_eq_getElem (by omega)⟩
      refine ⟨_, rfl, _, rfl, kl, _, _, .str (kn x), rfl, rfl, SqL.of (sm _ _ hk3), atk hx, _, rfl, _, rfl, D, _, _, v, rfl, rfl, SqL.of (sm _ _ hD), ati hv, x, v, rfl, hio i x v hx hv, fun H4 s4 => ⟨inR x v, rfl, ?_⟩⟩
      cases e : inR x v with
      | true => exact iteF ⟨_, _, by rw [allR_snoc hx hv, e, Bool.and_true]; rfl, sm.trans s4⟩
      | false => exact iteT ⟨_, _, by rw [allR_snoc hx hv, e, Bool.and_false, Bool.and_false]; rfl, sm.trans s4⟩
    rintro σ H4 ⟨y5, y8, rfl, s34⟩
    rw [klen]
    have et : ((formOf at_).zip items).take (formOf at_).length = (formOf at_).zip items := List.take_of_length_le (by rw [List.length_zip, el, Nat.min_self]; exact Nat.le_refl _)
    rw [et]
    obtain ⟨good, eg⟩ : ∃ b, (decide ((at_ : Int) < 18) && ((formOf at_).zip items).all (fun p => inR p.1 p.2)) = b := ⟨_, rfl⟩
    rw [eg]
    have e18 : decide ((at_ : Int) < 18) = decide (at_ < 18) := decide_eq_decide.mpr (by omega)
    have iok : insOk at_ items = (good && (!(decide (at_ = 5) || decide (at_ = 6)) || decide (sum34 items ≤ 16384))) := by
      unfold insOk
      rw [decide_eq_true el, Bool.true_and, ← eg, e18, Bool.and_assoc]
      rfl
    refine ⟨fun σ' H' => ∃ y5 y8 word, σ' = [some (.ref p), some (.int at_), some (.str (nameOf at_)), some (.ref kl), some (.ref D), y5, some (.bl (insOk at_ items)), some (.int word), y8, none] ∧ (insOk at_ items = true → word = enc at_ items) ∧ Same H3 H', ?_, ?_⟩
    · refine ⟨_, rfl, good, rfl, ?_⟩
      cases good with
      | false =>
        rw [Bool.false_and] at iok
        exact iteF ⟨_, _, _, (by rw [iok] <;> rfl), fun z => (by rw [iok] at z; cases z), s34⟩
      | true =>
        rw [Bool.true_and] at iok
        rw [Bool.and_eq_true, decide_eq_true_eq] at eg
        obtain ⟨h18, ha⟩ := eg
        refine iteT ?_
        have hk4 := s34 _ _ hk3
        refine ⟨_, rfl, kl, _, rfl, .inl (SqL.of hk4), _, rfl, (by rw [List.length_map]; omega), (by rw [List.length_map]; omega), for_range (n := ((((formOf at_).map fun x => V.str (kn x)).length : Nat) : Int).toNat) (fun i σ H' => ∃ y8, σ = [some (.ref p), some (.int at_), some (.str (nameOf at_)), some (.ref kl), some (.ref D), y5, some (.bl true), some (.int (encF (((at_ : Int) + 1) * 1073741824) (((formOf at_).zip items).take i))), y8, none] ∧ Same H4 H')
          ⟨y8, rfl, Same.refl _⟩ ?_ ?_⟩
        · rintro i σ H' hi ⟨y8, rfl, sm⟩
          rw [klen] at hi
          obtain ⟨x, hx⟩ : ∃ x, (formOf at_)[i]? = some x := ⟨_, List.getElem?_eq_getElem hi⟩
          obtain ⟨v, hv⟩ : ∃ v, items[i]? = some v := ⟨_, List.getElem?_eq_getElem (by omega)⟩
          have hin : inR x v = true := List.all_eq_true.mp ha (x, v) (List.mem_of_getElem? (zip_at hx hv))
          refine ⟨_, rfl, _, rfl, _, rfl, _, rfl, kl, _, _, .str (kn x), rfl, rfl, SqL.of (sm _ _ hk4), atk hx, _, rfl, _, rfl, D, _, _, v, rfl, rfl, SqL.of (sm _ _ (s34 _ _ hD)), ati hv, at_, x, v, rfl, h20, List.mem_of_getElem? hx, hin, fun H5 s5 => ?_⟩
          refine ⟨_, _, rfl, rfl, some (.int (0 + (i : Int))), ?_, sm.trans s5⟩
          have es : encF (((at_ : Int) + 1) * 1073741824) (((formOf at_).zip items).take (i + 1)) = encF (((at_ : Int) + 1) * 1073741824) (((formOf at_).zip items).take i) + pk x v * 2 ^ sh x := by
            rw [List.take_add_one, zip_at hx hv]
            exact encF_snoc _ _ _
          rw [es]
          rfl
        · rintro σ H5 ⟨y8, rfl, s45⟩
          rw [klen, et]
          have s35 := s34.trans s45
          refine ⟨_, rfl, by show 2 ≤ sizeLine; decide, fun t nt => ⟨t, _, rfl, .inr (SqT.of upd_same), rfl, rfl, _, rfl, ?_⟩⟩
          rw [in_two]
          have s36 : Same H3 (upd H5 t (.tup [.str "loadx", .str "storex"])) := s35.trans (same_new nt)
          by_cases h56 : at_ = 5 ∨ at_ = 6
          · have eb : (decide (at_ = 5) || decide (at_ = 6)) = true := by
              rcases h56 with h | h <;> simp [h]
            rw [eb] at iok
            refine if_t (by rcases h56 with h | h <;> subst h <;> decide +kernel) ?_
            obtain ⟨u0, u1, x, y, rfl⟩ : ∃ u0 u1 x y, items = [u0, u1, .int x, .int y] := by
              have ef : formOf at_ = [.r, .s, .a, .ce] := by rcases h56 with rfl | rfl <;> rfl
              rw [ef] at el ha
              match items, el with
              | [u0, u1, u2, u3], _ =>
                simp only [List.zip_cons_cons, List.all_cons, Bool.and_eq_true] at ha
                obtain ⟨_, _, h2, h3, _⟩ := ha
                cases u2 <;> first | exact absurd h2 Bool.false_ne_true | skip
                cases u3 <;> first | exact absurd h3 Bool.false_ne_true | skip
                exact ⟨_, _, _, _, rfl⟩
            have hD6 := s36 _ _ hD
            refine ⟨_, rfl, D, _, 2, .int x, rfl, rfl, SqL.of hD6, atI_nat (j := 2) rfl, _, rfl, D, _, 3, .int y, rfl, rfl, SqL.of hD6, atI_nat (j := 3) rfl, _, _, rfl, rfl, _, _, rfl, rfl, ?_⟩
            exact ⟨_, _, _, (by rw [iok] <;> rfl), fun _ => rfl, s36⟩
          · have eb : (decide (at_ = 5) || decide (at_ = 6)) = false := by
              rw [not_or] at h56
              simp [h56.1, h56.2]
            rw [eb] at iok
            rw [not_or] at h56
            refine if_f ?_ ⟨_, _, _, (by rw [iok] <;> rfl), fun _ => rfl, s36⟩
            show (decide (nameOf at_ = "loadx") || decide (nameOf at_ = "storex")) = false
            rw [Bool.or_eq_false_iff]
            exact ⟨decide_eq_false fun e => h56.1 (name_is h20 (by decide) (j := 5) e), decide_eq_false fun e => h56.2 (name_is h20 (by decide) (j := 6) e)⟩
    · rintro σ' H5 ⟨y5, y8, word, rfl, hw, s35⟩
      have st5 := st3.same s35
      have hD5 := s35 _ _ hD
      refine ⟨_, rfl, p, c, 20, rfl, st5, by decide, by decide, fun v6 H6 _ _ st6 k6 => ?_⟩
      have hD6 := k6 _ _ Dne.1 hD5
      -- what is handed back
      refine ⟨fun σ' H' => ∃ (y5 y8 y9 : Option V) (D2 : Addr) (its : List V), σ' = [some (.ref p), some (.int at_), some (.str (nameOf at_)), some (.ref kl), some (.ref D2), y5, some (.bl (insOk at_ its)), some (.int word), y8, y9] ∧ (insOk at_ its = true → word = enc at_ its) ∧ (∀ v ∈ its, Itm v) ∧ its.length ≤ 5 ∧ H' D2 = some (.lst its) ∧ StOk H' p c, ?_, ?_⟩
      · dsimp only [gName]
        refine if_and (a := decide (V.int v6 = V.int 0)) (b := decide (0 < ((items.length : Nat) : Int))) (fun Q' q' => ⟨_, rfl, rfl, _, rfl, q'⟩) (fun _ Q' q' => ⟨_, rfl, D, _, rfl, .inl (SqL.of hD6), _, _, rfl, rfl, _, rfl, q'⟩) (ite2 (fun c1 => ?_) (fun c1 => ?_))
        · rw [Bool.and_eq_true, decide_eq_true_eq, decide_eq_true_eq] at c1
          have hne : items ≠ [] := fun e => by
            have := c1.2
            rw [e] at this
            exact absurd this (by decide)
          obtain ⟨cl, cm⟩ := cut_last hne
          refine ⟨_, rfl, 1, rfl, _, rfl, D, _, rfl, SqL.of hD6, fun D2 nD2 => ?_⟩
          have il : insOk at_ (cutV items none (some (-1))) = false := insOk_len (by
            rw [cl]
            have := List.length_pos_iff.mpr hne
            omega)
          have ne6 := st6.ne nD2
          exact ⟨_, _, _, D2, cutV items none (some (-1)), (by rw [il] <;> rfl), fun z => (by rw [il] at z; cases z), fun v m => hI v (cm v m), (by rw [cl]; omega), upd_same, st6.upd ne6.1 ne6.2⟩
        · refine ⟨_, rfl, rfl, _, rfl, ite2 (fun c2 => ?_) (fun c2 => ?_)⟩
          · refine ⟨_, rfl, by show 1 ≤ sizeLine; decide, fun a na => ?_⟩
            have Da : D ≠ a := ne_of_none hD6 na
            refine ⟨D, a, _, _, rfl, rfl, by rw [upd_ne Da]; exact hD6, upd_same, ?_, fun D2 nD2 => ?_⟩
            · show items.length + 1 ≤ sizeLine
              exact Nat.le_trans (show items.length + 1 ≤ 100 by omega) (by decide)
            have il : insOk at_ (items ++ [.int 0]) = false := insOk_len (by rw [List.length_append, el]; simp)
            have hI8 : ∀ v ∈ items ++ [V.int 0], Itm v := fun v m => by
              rcases List.mem_append.mp m with m | m
              · exact hI v m
              · rw [List.mem_singleton.mp m]
                exact .inl ⟨0, rfl⟩
            have na6 := st6.ne na
            have st7 := st6.upd (o := .lst [.int 0]) na6.1 na6.2
            have ne7 := st7.ne nD2
            exact ⟨_, _, _, D2, items ++ [.int 0], (by rw [il] <;> rfl), fun z => (by rw [il] at z; cases z), hI8, (by rw [List.length_append, el]; simp; omega), upd_same, st7.upd ne7.1 ne7.2⟩
          · exact ⟨_, _, _, D, items, rfl, hw, hI, by omega, hD6, st6⟩
      · rintro σ' H7 ⟨y5, y8, y9, D2, its, rfl, hw7, hI7, hl7, hD7, st7⟩
        refine ⟨_, rfl, by show 1 ≤ sizeLine; decide, fun a na => ?_⟩
        have Da : D2 ≠ a := ne_of_none hD7 na
        refine ⟨_, rfl, a, D2, _, _, rfl, rfl, upd_same, by rw [upd_ne Da]; exact hD7, ?_, fun b nb => ?_⟩
        · show 1 + its.length ≤ sizeLine
          exact Nat.le_trans (show 1 + its.length ≤ 100 by omega) (by decide)
        refine ⟨b, _, rfl, .inl ⟨SqL.of upd_same, fun t nt => ?_⟩⟩
        refine ⟨_, rfl, _, rfl, by show 3 ≤ sizeLine; decide, fun r nr => ?_⟩
        have s9 := (((same_new (o := .lst [.str (nameOf at_)]) na).trans (same_new (o := .lst ([.str (nameOf at_)] ++ its)) nb)).trans (same_new (o := .tup ([.str (nameOf at_)] ++ its)) nt)).trans (same_new (o := .tup [.ref t, .bl (insOk at_ its), .int word]) nr)
        refine q at_ its word _ r t h20 hI7 hl7 hw7 (st7.same s9) ?_ upd_same
        have tr : t ≠ r := fun e => by
          rw [← e, upd_same] at nr
          cases nr
        rw [upd_ne tr]
        exact upd_same
end

section
variable {P : Program} {w : World} {K : PySem.W.Frag} {mg : Str → Option Value} {base : Heap}
def sp__law_refused (K : PySem.W.Frag) : Sp := fun vs H Q _ => ∃ (t : Addr) (at_ : Nat) (items : List V), vs = [.ref t] ∧ SqT K H t (.str (nameOf at_) :: items) ∧ at_ < 20 ∧ (∀ v ∈ items, Itm v) ∧ items.length ≤ 10 ∧ insOk at_ items = false ∧ ∀ H', Same H H' → Q (.bl true) H'
theorem ok__law_refused (T : Top P w K mg) : FnOk P w K mg base CX0 5 T.a__law_refused T.d__law_refused ["instruction"]  (sp__law_refused K) := by
  refine T.F__law_refused.ok sc__law_refused (fun vs H Q E h => ?_) (fun cdv A outer s H vs Q E hr h => ?_)
  · obtain ⟨_, _, _, rfl, _⟩ := h
    rfl
  · obtain ⟨t, at_, items, rfl, hT, h20, hI, hl, hno, q⟩ := h
    refine ⟨_, (pss_cons (ps_try_as (i := 1) (Wout := fun _ _ _ _ => False) rfl rfl sc__law_refused.nd rfl rfl ⟨rfl, by decide, Or.inl T.gc_CodeError⟩ takes0 (fun W pn xe tk _ => (pss_one (ps_expr (pe_callS (ok_encode T) (hr.mono (by decide)) (by rfl) T.g_encode T.F_encode.kp T.b_encode (fun σ => passAt tk σ) (pa_cons (pv 0) pa_nil))))) (fun a oe cls d pn hz hf => (pss_one (ps_ret (pe_and (pe_callB (call_isD T.xd_CodeError hz hf) (by rfl) T.m_isinstance (by decide +kernel) (pa_cons (pv 1) (pa_cons (pe_gr (by rfl) T.gc_DeadbeatError) pa_nil))) (pe_and (pe_callB (call_isD T.xd_CodeError hz hf) (by rfl) T.m_isinstance (by decide +kernel) (pa_cons (pv 1) (pa_cons (pe_ty (T := "ValueError") (by rfl) T.m_ValueError (by decide +kernel)) pa_nil))) (pe_one (pe_callB (show CallR _ (Value.builtin "isinstance") (rIsi K) from call_isi) (by rfl) T.m_isinstance (by decide +kernel) (by exact (pa_cons (pe_xf T.xf_CodeError T.x_CodeError.noN hz hf (pv 1)) (pa_cons (pe_ty (T := "int") (by rfl) T.m_int (by decide +kernel)) pa_nil)))))))))))
  (pss_one (ps_ret pe_bl))), ?_⟩
    refine ⟨_, rfl, t, at_, items, rfl, hT, h20, hI, hl, fun z => (by rw [hno] at z; cases z), fun _ H1 d sm hd hx => ?_⟩
    refine ⟨true, T.x_CodeError.te, fun _ a na => ?_, fun q => Bool.noConfusion q⟩
    refine ⟨_, rfl, _, (.ref T.C_DeadbeatError), true, d, _, rfl, rfl, rfl, fun u h => h, T.kt_CodeError_DeadbeatError, hx, true, rfl, ?_⟩
    refine ⟨_, rfl, _, (.type "ValueError"), true, d, _, rfl, rfl, rfl, fun u h => h, T.kt_CodeError_ValueError, hx, true, rfl, ?_⟩
    refine ⟨_, rfl, rfl, rfl, d, _, _, rfl, hx, rfl, _, _, _, _, true, rfl, .ty _, .base (.int _), kit_ty (by decide +kernel), ?_⟩
    exact q _ sm
def sp__law_holds : Sp := fun vs H Q _ => ∃ (p c : Addr), vs = [.ref p] ∧ StOk H p c ∧ ∀ H', StOk H' p c → Q (.bl true) H'
theorem items_data {K : PySem.W.Frag} {H : Hp} : ∀ items : List V, (∀ v ∈ items, (∃ n : Int, v = .int n) ∨ ∃ z, v = .str z ∧ PyData.strOk z = true) → ∃ ds : List PyData, (∀ H', DpAll K H' items ds) ∧ PyData.canLayAll0 ds = true ∧ PyData.depthAll ds ≤ 1
  | [], _ => ⟨[], fun _ => .nil, rfl, by decide⟩
  | v :: r, h => by
    obtain ⟨ds, h1, h2, h3⟩ := items_data (K := K) (H := H) r fun u m => h u (List.mem_cons_of_mem _ m)
    rcases h v List.mem_cons_self with ⟨n, rfl⟩ | ⟨z, rfl, hz⟩
    · refine ⟨.int n :: ds, fun H' => .cons (.int n) (h1 H'), ?_, ?_⟩
      · simp only [PyData.canLayAll0, PyData.canLay0, Bool.true_and]
        exact h2
      · simp only [PyData.depthAll, PyData.depth]
        omega
    · refine ⟨.str z :: ds, fun H' => .cons (.str z) (h1 H'), ?_, ?_⟩
      · simp only [PyData.canLayAll0, PyData.canLay0, hz, Bool.true_and]
        exact h2
      · simp only [PyData.depthAll, PyData.depth]
        omega
theorem good_items {at_ : Nat} {items : List V} (h : insOk at_ items = true) : ∀ v ∈ items, (∃ n : Int, v = .int n) ∨ ∃ z, v = .str z ∧ PyData.strOk z = true := fun v m => by
  unfold insOk at h
  rw [Bool.and_eq_true, Bool.and_eq_true, Bool.and_eq_true, decide_eq_true_eq, decide_eq_true_eq] at h
  obtain ⟨_, el, ha, _⟩ := h
  obtain ⟨j, hj⟩ := List.getElem?_of_mem m
  have hjl := (List.getElem?_eq_some_iff.mp hj).1
  obtain ⟨x, hx⟩ : ∃ x, (formOf at_)[j]? = some x := ⟨_, List.getElem?_eq_getElem (by omega)⟩
  have hin : inR x v = true := List.all_eq_true.mp ha (x, v) (List.mem_of_getElem? (zip_at hx hj))
  by_cases hk : x = .k
  · subst hk
    obtain ⟨z, rfl, hz⟩ := inR_str hin
    obtain ⟨i, hi, h1, _⟩ := calc_idx hz
    have : ∀ i : Fin 17, PyData.strOk (CALC.getD i.val "") = true := by decide +kernel
    have q := this ⟨i, hi⟩
    have e : CALC.getD i "" = z := by rw [List.getD_eq_getElem?_getD, h1]; rfl
    rw [e] at q
    exact .inr ⟨z, rfl, q⟩
  · exact .inl (inR_int hk hin)
theorem ok__law_holds (T : Top P w K mg) : FnOk P w K mg base CX0 6 T.a__law_holds T.d__law_holds ["state"]  sp__law_holds := by
  refine T.F__law_holds.ok sc__law_holds (fun vs H Q E h => ?_) (fun cdv A outer s H vs Q E hr h => ?_)
  · obtain ⟨_, _, rfl, _⟩ := h
    rfl
  · obtain ⟨p, c, rfl, st, q⟩ := h
    refine ⟨_, (pss_cons (ps_asg (pe_call (ok__law_instruction T) (hr.mono (by decide)) (by rfl) T.g__law_instruction T.F__law_instruction.kp T.b__law_instruction .nil pass0 (pa_cons (pv 0) pa_nil)) (pg_tup rfl (pgs_cons (pg_name (i := 1) sc__law_holds.nd rfl (by first | exact Or.inl rfl | exact Or.inr rfl)) (pgs_cons (pg_name (i := 2) sc__law_holds.nd rfl (by first | exact Or.inl rfl | exact Or.inr rfl)) (pgs_cons (pg_name (i := 3) sc__law_holds.nd rfl (by first | exact Or.inl rfl | exact Or.inr rfl)) pgs_nil)))))
  (pss_cons (ps_set (i := 4) sc__law_holds.nd rfl (by first | exact Or.inl rfl | exact Or.inr rfl) (pe_call (ok_is_instruction T) (hr.mono (by decide)) (by rfl) T.g_is_instruction T.F_is_instruction.kp T.b_is_instruction .nil pass0 (pa_cons (pv 1) pa_nil)))
  (pss_cons (ps_if (pw_or (pt_not (pt_val (pe_callB call_isi (by rfl) T.m_isinstance (by decide +kernel) (pa_cons (pv 4) (pa_cons (pe_ty (T := "bool") (by rfl) T.m_bool (by decide +kernel)) pa_nil))))) (pw_or1 (pt_cmpR op_ne (pv 4) (pv 2) (nomark _)))).pt
  (pss_one (ps_ret pe_bl))
  pss_nil)
  (pss_cons (ps_if (pt_not (pt_val (pv 2)))
  (pss_one (ps_ret (pe_call (ok__law_refused T) (hr.mono (by decide)) (by rfl) T.g__law_refused T.F__law_refused.kp T.b__law_refused .nil pass0 (pa_cons (pv 1) pa_nil))))
  pss_nil)
  (pss_cons (ps_set (i := 5) sc__law_holds.nd rfl (by first | exact Or.inl rfl | exact Or.inr rfl) (pe_call (ok_encode T) (hr.mono (by decide)) (by rfl) T.g_encode T.F_encode.kp T.b_encode .nil pass_no (pa_cons (pv 1) pa_nil)))
  (pss_cons (ps_if (pw_or (pt_not (pt_val (pe_callB call_isi (by rfl) T.m_isinstance (by decide +kernel) (pa_cons (pv 5) (pa_cons (pe_ty (T := "int") (by rfl) T.m_int (by decide +kernel)) pa_nil))))) (pw_or (pt_val (pe_callB call_isi (by rfl) T.m_isinstance (by decide +kernel) (pa_cons (pv 5) (pa_cons (pe_ty (T := "bool") (by rfl) T.m_bool (by decide +kernel)) pa_nil)))) (pw_or1 (pt_cmpR op_ne (pv 5) (pv 3) (nomark _))))).pt
  (pss_one (ps_ret pe_bl))
  pss_nil)
  (pss_cons (ps_set (i := 6) sc__law_holds.nd rfl (by first | exact Or.inl rfl | exact Or.inr rfl) (pe_call (ok_decode T) (hr.mono (by decide)) (by rfl) T.g_decode T.F_decode.kp T.b_decode .nil pass0 (pa_cons (pv 3) pa_nil)))
  (pss_one (ps_ret (pe_and (pe_callB call_isi (by rfl) T.m_isinstance (by decide +kernel) (pa_cons (pv 6) (pa_cons (pe_ty (T := "tuple") (by rfl) T.m_tuple (by decide +kernel)) pa_nil))) (pe_one (pe_cmpR (op_eqD hr.units) (pv 6) (pv 1) (nomark _))))))))))))), ?_⟩
    refine ⟨_, rfl, p, c, rfl, st, fun at_ items word H1 r t h20 hI hl hw st1 ht hrr => ?_⟩
    refine ⟨r, _, rfl, SqT.of hrr, rfl, _, _, rfl, _, _, rfl, _, _, rfl, rfl, ?_⟩
    have hT := SqT.of (K := K) ht
    refine ⟨_, rfl, t, _, rfl, hT, .inr ⟨at_, items, rfl, h20, hI, by omega, fun H2 s2 => ?_⟩⟩
    have hT2 := Same.seqT s2 hT
    dsimp only [gName]
    refine if_or (a := false) (b := _) (fun Q' q' => ⟨_, rfl, _, _, _, _, true, rfl, .ty _, .base (.bl _), kit_ty (by decide +kernel), true, rfl, q'⟩) (fun _ Q' q' => ⟨_, rfl, _, rfl, rfl, _, rfl, q'⟩) (if_f (by rw [decide_eq_true rfl]; rfl) ?_)
    refine ⟨_, rfl, insOk at_ items, rfl, ?_⟩
    cases ei : insOk at_ items with
    | false => exact iteT ⟨_, rfl, t, at_, items, rfl, hT2, h20, hI, by omega, ei, fun H3 s3 => q H3 ((st1.same s2).same s3)⟩
    | true =>
      refine iteF ?_
      have ew := hw ei
      refine ⟨_, rfl, t, at_, items, rfl, hT2, h20, hI, by omega, fun _ H3 s3 => ?_, fun z => (by rw [ei] at z; cases z)⟩
      dsimp only [gName]
      refine if_or (a := false) (b := false) (fun Q' q' => ⟨_, rfl, _, _, _, _, true, rfl, .ty _, .base (.int _), kit_ty (by decide +kernel), true, rfl, q'⟩) (fun _ Q' q' => or_test (a := false) (b := false) (fun Q2 q2 => ⟨_, rfl, _, _, _, _, false, rfl, .ty _, .base (.int _), kit_ty (by decide +kernel), false, rfl, q2⟩) (fun _ Q2 q2 => ⟨_, rfl, _, rfl, rfl, _, rfl, by rw [ew, decide_eq_true rfl]; exact q2⟩) q') (iteF ?_)
      refine ⟨_, rfl, word, at_, items, rfl, ew, ei, hI, fun H4 b s4 nb hb => ?_⟩
      have st4 := (((st1.same s2).same s3).same s4)
      have hT4 := Same.seqT (s3.trans s4) hT2
      refine ⟨_, rfl, _, _, _, _, true, rfl, .ty _, .base (.tup hb), kit_ty (by decide +kernel), true, rfl, ?_⟩
      obtain ⟨ds, g1, g2, g3⟩ := items_data (K := K) (H := H4) items (good_items ei)
      have hz : PyData.strOk (nameOf at_) = true := by
        have : ∀ i : Fin 20, PyData.strOk (nameOf i.val) = true := by decide +kernel
        exact this ⟨at_, h20⟩
      have cl : PyData.canLay0 (.tuple (.str (nameOf at_) :: ds)) = true := by
        simp only [PyData.canLay0, PyData.canLayAll0, hz, Bool.true_and]
        exact g2
      have sh1 : SeqAt.shaped (.tuple (.str (nameOf at_) :: ds)) = true := by
        unfold SeqAt.shaped
        rw [cl, Bool.true_and, decide_eq_true_eq]
        simp only [PyData.depth, PyData.depthAll]
        omega
      refine iteT ⟨_, rfl, _, rfl, .tuple (.str (nameOf at_) :: ds), .tuple (.str (nameOf at_) :: ds), .tup (SqT.of hb) (.cons (.str _) (g1 _)), .tup hT4 (.cons (.str _) (g1 _)), sh1, sh1, ?_⟩
      rw [SeqAt.eqv_refl _ cl]
      exact q _ st4
def sp_law (K : PySem.W.Frag) : Sp := fun vs H Q _ => ∃ (a : Addr) (ns : List Int), vs = [.ref a] ∧ SqL K H a (ns.map V.int) ∧ ns.length ≤ 63 ∧ ∀ H', Q (.bl true) H'
theorem ok_law (T : Top P w K mg) : FnOk P w K mg base CX0 7 T.a_law T.d_law ["script"]  (sp_law K) := by
  refine T.F_law.ok sc_law (fun vs H Q E h => ?_) (fun cdv A outer s H vs Q E hr h => ?_)
  · obtain ⟨_, _, rfl, _⟩ := h
    rfl
  · obtain ⟨l, ns, rfl, hS, hlen, q⟩ := h
    refine ⟨_, (pss_cons (ps_set (i := 1) sc_law.nd rfl (by first | exact Or.inl rfl | exact Or.inr rfl) (pe_call (ok__law_start T) (hr.mono (by decide)) (by rfl) T.g__law_start T.F__law_start.kp T.b__law_start .nil pass0 (pa_cons (pv 0) pa_nil)))
  (pss_cons (ps_for PassesOwn.never rfl (pi_range1 (by rfl) T.m_range (pa_cons pe_int pa_nil)) (pg_name (i := 2) sc_law.nd rfl (by first | exact Or.inl rfl | exact Or.inr rfl))
  (pss_one (ps_if (pt_not (pt_val (pe_call (ok__law_holds T) (hr.mono (by decide)) (by rfl) T.g__law_holds T.F__law_holds.kp T.b__law_holds .nil pass0 (pa_cons (pv 1) pa_nil))))
  (pss_one (ps_ret pe_bl))
  pss_nil)))
  (pss_one (ps_ret (pe_cmpR op_is_bl (pe_call (ok_is_instruction T) (hr.mono (by decide)) (by rfl) T.g_is_instruction T.F_is_instruction.kp T.b_is_instruction .nil pass0 (pa_cons (pe_tup pa_nil) pa_nil)) pe_bl (nomark _)))))), ?_⟩
    refine ⟨_, rfl, l, ns, rfl, hS, hlen, fun H0 p c _ _ _ st0 => ?_⟩
    refine ⟨6, rfl, by decide, by decide, for_range (n := 6) (fun i σ H' => ∃ y2, σ = [some (.ref l), some (.ref p), y2] ∧ StOk H' p c) ⟨none, rfl, st0⟩ ?_ ?_⟩
    · rintro i σ H' hi ⟨y2, rfl, st⟩
      exact ⟨_, rfl, p, c, rfl, st, fun H2 st2 => ⟨true, rfl, iteF ⟨_, rfl, st2⟩⟩⟩
    · rintro σ H' ⟨y2, rfl, st⟩
      refine ⟨by show 0 ≤ sizeLine; decide, fun t nt => ⟨t, _, rfl, SqT.of upd_same, .inl ⟨rfl, ?_⟩⟩⟩
      exact ⟨_, _, rfl, rfl, q _⟩
end
def top_mk {P : Program} {w : World} {K : PySem.W.Frag} {h : Heap} {mg : Str → Option Value} (X : K.In h) (G : h.Ns mainGlobals mg)
    {a_decimal : Addr} {od_decimal an_decimal : Option Addr} {sl_decimal : Array (Option Value)} {oc_decimal kV_decimal dc_decimal pm_decimal cd_decimal ct_decimal : Value}
    {a__law_start : Addr} {od__law_start an__law_start : Option Addr} {sl__law_start : Array (Option Value)} {oc__law_start kV__law_start dc__law_start pm__law_start cd__law_start ct__law_start : Value}
    {a__law_draw : Addr} {od__law_draw an__law_draw : Option Addr} {sl__law_draw : Array (Option Value)} {oc__law_draw kV__law_draw dc__law_draw pm__law_draw cd__law_draw ct__law_draw : Value}
    {a__in_range : Addr} {od__in_range an__in_range : Option Addr} {sl__in_range : Array (Option Value)} {oc__in_range kV__in_range dc__in_range pm__in_range cd__in_range ct__in_range : Value}
    {a_is_instruction : Addr} {od_is_instruction an_is_instruction : Option Addr} {sl_is_instruction : Array (Option Value)} {oc_is_instruction kV_is_instruction dc_is_instruction pm_is_instruction cd_is_instruction ct_is_instruction : Value}
    {a__packed : Addr} {od__packed an__packed : Option Addr} {sl__packed : Array (Option Value)} {oc__packed kV__packed dc__packed pm__packed cd__packed ct__packed : Value}
    {a__unpacked : Addr} {od__unpacked an__unpacked : Option Addr} {sl__unpacked : Array (Option Value)} {oc__unpacked kV__unpacked dc__unpacked pm__unpacked cd__unpacked ct__unpacked : Value}
    {a__part_of : Addr} {od__part_of an__part_of : Option Addr} {sl__part_of : Array (Option Value)} {oc__part_of kV__part_of dc__part_of pm__part_of cd__part_of ct__part_of : Value}
    {a_encode : Addr} {od_encode an_encode : Option Addr} {sl_encode : Array (Option Value)} {oc_encode kV_encode dc_encode pm_encode cd_encode ct_encode : Value}
    {a_decode : Addr} {od_decode an_decode : Option Addr} {sl_decode : Array (Option Value)} {oc_decode kV_decode dc_decode pm_decode cd_decode ct_decode : Value}
    {a__law_name : Addr} {od__law_name an__law_name : Option Addr} {sl__law_name : Array (Option Value)} {oc__law_name kV__law_name dc__law_name pm__law_name cd__law_name ct__law_name : Value}
    {a__law_operation : Addr} {od__law_operation an__law_operation : Option Addr} {sl__law_operation : Array (Option Value)} {oc__law_operation kV__law_operation dc__law_operation pm__law_operation cd__law_operation ct__law_operation : Value}
    {a__law_kinds : Addr} {od__law_kinds an__law_kinds : Option Addr} {sl__law_kinds : Array (Option Value)} {oc__law_kinds kV__law_kinds dc__law_kinds pm__law_kinds cd__law_kinds ct__law_kinds : Value}
    {a__law_range : Addr} {od__law_range an__law_range : Option Addr} {sl__law_range : Array (Option Value)} {oc__law_range kV__law_range dc__law_range pm__law_range cd__law_range ct__law_range : Value}
    {a__law_item : Addr} {od__law_item an__law_item : Option Addr} {sl__law_item : Array (Option Value)} {oc__law_item kV__law_item dc__law_item pm__law_item cd__law_item ct__law_item : Value}
    {a__law_right : Addr} {od__law_right an__law_right : Option Addr} {sl__law_right : Array (Option Value)} {oc__law_right kV__law_right dc__law_right pm__law_right cd__law_right ct__law_right : Value}
    {a__law_part : Addr} {od__law_part an__law_part : Option Addr} {sl__law_part : Array (Option Value)} {oc__law_part kV__law_part dc__law_part pm__law_part cd__law_part ct__law_part : Value}
    {a__law_instruction : Addr} {od__law_instruction an__law_instruction : Option Addr} {sl__law_instruction : Array (Option Value)} {oc__law_instruction kV__law_instruction dc__law_instruction pm__law_instruction cd__law_instruction ct__law_instruction : Value}
    {a__law_refused : Addr} {od__law_refused an__law_refused : Option Addr} {sl__law_refused : Array (Option Value)} {oc__law_refused kV__law_refused dc__law_refused pm__law_refused cd__law_refused ct__law_refused : Value}
    {a__law_holds : Addr} {od__law_holds an__law_holds : Option Addr} {sl__law_holds : Array (Option Value)} {oc__law_holds kV__law_holds dc__law_holds pm__law_holds cd__law_holds ct__law_holds : Value}
    {a_law : Addr} {od_law an_law : Option Addr} {sl_law : Array (Option Value)} {oc_law kV_law dc_law pm_law cd_law ct_law : Value}
    {C_CodeError : Addr}
    {C_DeadbeatError : Addr}
    {f_CodeError cda_CodeError cc_CodeError N_CodeError : Addr} {nm_CodeError q_CodeError file_CodeError : Str} {bs_CodeError bm_CodeError sub_CodeError : List Value} {sn_CodeError : List Str} {ab_CodeError : Bool} {col_CodeError : Option Bool} {dd_CodeError od_CodeError an_CodeError cdd_CodeError cld_CodeError : Option Addr} {m0_CodeError m1_CodeError m2_CodeError m3_CodeError m5_CodeError : Option Value} {oc_CodeError dc_CodeError pm_CodeError ct_CodeError ccl_CodeError cl_CodeError : Value} {osl_CodeError ccs_CodeError csl_CodeError : Array (Option Value)} {vs_CodeError : Array Value} {tq_CodeError tf_CodeError : Tok}
    {t_PIECE : Tok}
    {t_PIECE_DIGITS : Tok}
    {p_RANGES : Addr} {e_RANGES : Array DictEntry} {n_RANGES : Nat}
    {t_RANGES_0 : Addr} {dd_RANGES_0 : Option Addr} {n_RANGES_0 : Nat} {us_RANGES_0 : Array Value} {sl_RANGES_0 : Array (Option Value)}
    {t_RANGES_1 : Addr} {dd_RANGES_1 : Option Addr} {n_RANGES_1 : Nat} {us_RANGES_1 : Array Value} {sl_RANGES_1 : Array (Option Value)}
    {t_RANGES_2 : Addr} {dd_RANGES_2 : Option Addr} {n_RANGES_2 : Nat} {us_RANGES_2 : Array Value} {sl_RANGES_2 : Array (Option Value)}
    {t_RANGES_3 : Addr} {dd_RANGES_3 : Option Addr} {n_RANGES_3 : Nat} {us_RANGES_3 : Array Value} {sl_RANGES_3 : Array (Option Value)}
    {t_RANGES_4 : Addr} {dd_RANGES_4 : Option Addr} {n_RANGES_4 : Nat} {us_RANGES_4 : Array Value} {sl_RANGES_4 : Array (Option Value)}
    {t_RANGES_5 : Addr} {dd_RANGES_5 : Option Addr} {n_RANGES_5 : Nat} {us_RANGES_5 : Array Value} {sl_RANGES_5 : Array (Option Value)}
    {t_RANGES_6 : Addr} {dd_RANGES_6 : Option Addr} {n_RANGES_6 : Nat} {us_RANGES_6 : Array Value} {sl_RANGES_6 : Array (Option Value)}
    {t_RANGES_7 : Addr} {dd_RANGES_7 : Option Addr} {n_RANGES_7 : Nat} {us_RANGES_7 : Array Value} {sl_RANGES_7 : Array (Option Value)}
    {t_RANGES_8 : Addr} {dd_RANGES_8 : Option Addr} {n_RANGES_8 : Nat} {us_RANGES_8 : Array Value} {sl_RANGES_8 : Array (Option Value)}
    {t_RANGES_9 : Addr} {dd_RANGES_9 : Option Addr} {n_RANGES_9 : Nat} {us_RANGES_9 : Array Value} {sl_RANGES_9 : Array (Option Value)}
    {t_RANGES_10 : Addr} {dd_RANGES_10 : Option Addr} {n_RANGES_10 : Nat} {us_RANGES_10 : Array Value} {sl_RANGES_10 : Array (Option Value)}
    {t_RANGES_11 : Addr} {dd_RANGES_11 : Option Addr} {n_RANGES_11 : Nat} {us_RANGES_11 : Array Value} {sl_RANGES_11 : Array (Option Value)}
    {p_CALCULATIONS : Addr} {n_CALCULATIONS : Nat} {us_CALCULATIONS : Array Value} {sl_CALCULATIONS : Array (Option Value)}
    {t_DATA_WORDS : Tok}
    {p_FORMS : Addr} {e_FORMS : Array DictEntry} {n_FORMS : Nat}
    {t_FORMS_0 : Addr} {dd_FORMS_0 : Option Addr} {n_FORMS_0 : Nat} {us_FORMS_0 : Array Value} {sl_FORMS_0 : Array (Option Value)}
    {t_FORMS_1 : Addr} {dd_FORMS_1 : Option Addr} {n_FORMS_1 : Nat} {us_FORMS_1 : Array Value} {sl_FORMS_1 : Array (Option Value)}
    {t_FORMS_2 : Addr} {dd_FORMS_2 : Option Addr} {n_FORMS_2 : Nat} {us_FORMS_2 : Array Value} {sl_FORMS_2 : Array (Option Value)}
    {t_FORMS_3 : Addr} {dd_FORMS_3 : Option Addr} {n_FORMS_3 : Nat} {us_FORMS_3 : Array Value} {sl_FORMS_3 : Array (Option Value)}
    {t_FORMS_4 : Addr} {dd_FORMS_4 : Option Addr} {n_FORMS_4 : Nat} {us_FORMS_4 : Array Value} {sl_FORMS_4 : Array (Option Value)}
    {t_FORMS_5 : Addr} {dd_FORMS_5 : Option Addr} {n_FORMS_5 : Nat} {us_FORMS_5 : Array Value} {sl_FORMS_5 : Array (Option Value)}
    {t_FORMS_6 : Addr} {dd_FORMS_6 : Option Addr} {n_FORMS_6 : Nat} {us_FORMS_6 : Array Value} {sl_FORMS_6 : Array (Option Value)}
    {t_FORMS_7 : Addr} {dd_FORMS_7 : Option Addr} {n_FORMS_7 : Nat} {us_FORMS_7 : Array Value} {sl_FORMS_7 : Array (Option Value)}
    {t_FORMS_8 : Addr} {dd_FORMS_8 : Option Addr} {n_FORMS_8 : Nat} {us_FORMS_8 : Array Value} {sl_FORMS_8 : Array (Option Value)}
    {t_FORMS_9 : Addr} {dd_FORMS_9 : Option Addr} {n_FORMS_9 : Nat} {us_FORMS_9 : Array Value} {sl_FORMS_9 : Array (Option Value)}
    {t_FORMS_10 : Addr} {dd_FORMS_10 : Option Addr} {n_FORMS_10 : Nat} {us_FORMS_10 : Array Value} {sl_FORMS_10 : Array (Option Value)}
    {t_FORMS_11 : Addr} {dd_FORMS_11 : Option Addr} {n_FORMS_11 : Nat} {us_FORMS_11 : Array Value} {sl_FORMS_11 : Array (Option Value)}
    {t_FORMS_12 : Addr} {dd_FORMS_12 : Option Addr} {n_FORMS_12 : Nat} {us_FORMS_12 : Array Value} {sl_FORMS_12 : Array (Option Value)}
    {t_FORMS_13 : Addr} {dd_FORMS_13 : Option Addr} {n_FORMS_13 : Nat} {us_FORMS_13 : Array Value} {sl_FORMS_13 : Array (Option Value)}
    {t_FORMS_14 : Addr} {dd_FORMS_14 : Option Addr} {n_FORMS_14 : Nat} {us_FORMS_14 : Array Value} {sl_FORMS_14 : Array (Option Value)}
    {t_FORMS_15 : Addr} {dd_FORMS_15 : Option Addr} {n_FORMS_15 : Nat} {us_FORMS_15 : Array Value} {sl_FORMS_15 : Array (Option Value)}
    {t_FORMS_16 : Addr} {dd_FORMS_16 : Option Addr} {n_FORMS_16 : Nat} {us_FORMS_16 : Array Value} {sl_FORMS_16 : Array (Option Value)}
    {t_FORMS_17 : Addr} {dd_FORMS_17 : Option Addr} {n_FORMS_17 : Nat} {us_FORMS_17 : Array Value} {sl_FORMS_17 : Array (Option Value)}
    {t_SIGNED_VALUES : Tok}
    {t_GREATEST_SIGNED : Tok}
    {p_BITS : Addr} {e_BITS : Array DictEntry} {n_BITS : Nat}
    {t_BITS_0 : Addr} {dd_BITS_0 : Option Addr} {n_BITS_0 : Nat} {us_BITS_0 : Array Value} {sl_BITS_0 : Array (Option Value)}
    {t_BITS_1 : Addr} {dd_BITS_1 : Option Addr} {n_BITS_1 : Nat} {us_BITS_1 : Array Value} {sl_BITS_1 : Array (Option Value)}
    {t_BITS_2 : Addr} {dd_BITS_2 : Option Addr} {n_BITS_2 : Nat} {us_BITS_2 : Array Value} {sl_BITS_2 : Array (Option Value)}
    {t_BITS_3 : Addr} {dd_BITS_3 : Option Addr} {n_BITS_3 : Nat} {us_BITS_3 : Array Value} {sl_BITS_3 : Array (Option Value)}
    {t_BITS_4 : Addr} {dd_BITS_4 : Option Addr} {n_BITS_4 : Nat} {us_BITS_4 : Array Value} {sl_BITS_4 : Array (Option Value)}
    {t_BITS_5 : Addr} {dd_BITS_5 : Option Addr} {n_BITS_5 : Nat} {us_BITS_5 : Array Value} {sl_BITS_5 : Array (Option Value)}
    {t_BITS_6 : Addr} {dd_BITS_6 : Option Addr} {n_BITS_6 : Nat} {us_BITS_6 : Array Value} {sl_BITS_6 : Array (Option Value)}
    {t_BITS_7 : Addr} {dd_BITS_7 : Option Addr} {n_BITS_7 : Nat} {us_BITS_7 : Array Value} {sl_BITS_7 : Array (Option Value)}
    {t_BITS_8 : Addr} {dd_BITS_8 : Option Addr} {n_BITS_8 : Nat} {us_BITS_8 : Array Value} {sl_BITS_8 : Array (Option Value)}
    {t_BITS_9 : Addr} {dd_BITS_9 : Option Addr} {n_BITS_9 : Nat} {us_BITS_9 : Array Value} {sl_BITS_9 : Array (Option Value)}
    {t_BITS_10 : Addr} {dd_BITS_10 : Option Addr} {n_BITS_10 : Nat} {us_BITS_10 : Array Value} {sl_BITS_10 : Array (Option Value)}
    {t_BITS_11 : Addr} {dd_BITS_11 : Option Addr} {n_BITS_11 : Nat} {us_BITS_11 : Array Value} {sl_BITS_11 : Array (Option Value)}
    {t_BITS_12 : Addr} {dd_BITS_12 : Option Addr} {n_BITS_12 : Nat} {us_BITS_12 : Array Value} {sl_BITS_12 : Array (Option Value)}
    {p_NAMES : Addr} {n_NAMES : Nat} {us_NAMES : Array Value} {sl_NAMES : Array (Option Value)}
    {t_OPCODE_BIT : Tok}
    (n_decimal : PySem.W.nsIn K mainGlobals "decimal" = some (some (.ref a_decimal)))
    (n__law_start : PySem.W.nsIn K mainGlobals "_law_start" = some (some (.ref a__law_start)))
    (n__law_draw : PySem.W.nsIn K mainGlobals "_law_draw" = some (some (.ref a__law_draw)))
    (n__in_range : PySem.W.nsIn K mainGlobals "_in_range" = some (some (.ref a__in_range)))
    (n_is_instruction : PySem.W.nsIn K mainGlobals "is_instruction" = some (some (.ref a_is_instruction)))
    (n__packed : PySem.W.nsIn K mainGlobals "_packed" = some (some (.ref a__packed)))
    (n__unpacked : PySem.W.nsIn K mainGlobals "_unpacked" = some (some (.ref a__unpacked)))
    (n__part_of : PySem.W.nsIn K mainGlobals "_part_of" = some (some (.ref a__part_of)))
    (n_encode : PySem.W.nsIn K mainGlobals "encode" = some (some (.ref a_encode)))
    (n_decode : PySem.W.nsIn K mainGlobals "decode" = some (some (.ref a_decode)))
    (n__law_name : PySem.W.nsIn K mainGlobals "_law_name" = some (some (.ref a__law_name)))
    (n__law_operation : PySem.W.nsIn K mainGlobals "_law_operation" = some (some (.ref a__law_operation)))
    (n__law_kinds : PySem.W.nsIn K mainGlobals "_law_kinds" = some (some (.ref a__law_kinds)))
    (n__law_range : PySem.W.nsIn K mainGlobals "_law_range" = some (some (.ref a__law_range)))
    (n__law_item : PySem.W.nsIn K mainGlobals "_law_item" = some (some (.ref a__law_item)))
    (n__law_right : PySem.W.nsIn K mainGlobals "_law_right" = some (some (.ref a__law_right)))
    (n__law_part : PySem.W.nsIn K mainGlobals "_law_part" = some (some (.ref a__law_part)))
    (n__law_instruction : PySem.W.nsIn K mainGlobals "_law_instruction" = some (some (.ref a__law_instruction)))
    (n__law_refused : PySem.W.nsIn K mainGlobals "_law_refused" = some (some (.ref a__law_refused)))
    (n__law_holds : PySem.W.nsIn K mainGlobals "_law_holds" = some (some (.ref a__law_holds)))
    (n_law : PySem.W.nsIn K mainGlobals "law" = some (some (.ref a_law)))
    (nc_CodeError : PySem.W.nsIn K mainGlobals "CodeError" = some (some (.ref C_CodeError)))
    (nc_DeadbeatError : PySem.W.nsIn K mainGlobals "DeadbeatError" = some (some (.ref C_DeadbeatError)))
    (l_decimal : K.lookup a_decimal = some ⟨oc_decimal, od_decimal, .func (PySem.W.fnOf "decimal" "decimal" (defArgs s_decimal) (defBody s_decimal) (defScope s_decimal) .none kV_decimal dc_decimal pm_decimal an_decimal cd_decimal ct_decimal), sl_decimal⟩)
    (c_decimal : PySem.W.codeIn K cd_decimal "decimal" = true)
    (k_decimal : PySem.W.keepIn K (.ref a_decimal) = true)
    (l__law_start : K.lookup a__law_start = some ⟨oc__law_start, od__law_start, .func (PySem.W.fnOf "_law_start" "_law_start" (defArgs s__law_start) (defBody s__law_start) (defScope s__law_start) .none kV__law_start dc__law_start pm__law_start an__law_start cd__law_start ct__law_start), sl__law_start⟩)
    (c__law_start : PySem.W.codeIn K cd__law_start "_law_start" = true)
    (k__law_start : PySem.W.keepIn K (.ref a__law_start) = true)
    (l__law_draw : K.lookup a__law_draw = some ⟨oc__law_draw, od__law_draw, .func (PySem.W.fnOf "_law_draw" "_law_draw" (defArgs s__law_draw) (defBody s__law_draw) (defScope s__law_draw) .none kV__law_draw dc__law_draw pm__law_draw an__law_draw cd__law_draw ct__law_draw), sl__law_draw⟩)
    (c__law_draw : PySem.W.codeIn K cd__law_draw "_law_draw" = true)
    (k__law_draw : PySem.W.keepIn K (.ref a__law_draw) = true)
    (l__in_range : K.lookup a__in_range = some ⟨oc__in_range, od__in_range, .func (PySem.W.fnOf "_in_range" "_in_range" (defArgs s__in_range) (defBody s__in_range) (defScope s__in_range) .none kV__in_range dc__in_range pm__in_range an__in_range cd__in_range ct__in_range), sl__in_range⟩)
    (c__in_range : PySem.W.codeIn K cd__in_range "_in_range" = true)
    (k__in_range : PySem.W.keepIn K (.ref a__in_range) = true)
    (l_is_instruction : K.lookup a_is_instruction = some ⟨oc_is_instruction, od_is_instruction, .func (PySem.W.fnOf "is_instruction" "is_instruction" (defArgs s_is_instruction) (defBody s_is_instruction) (defScope s_is_instruction) .none kV_is_instruction dc_is_instruction pm_is_instruction an_is_instruction cd_is_instruction ct_is_instruction), sl_is_instruction⟩)
    (c_is_instruction : PySem.W.codeIn K cd_is_instruction "is_instruction" = true)
    (k_is_instruction : PySem.W.keepIn K (.ref a_is_instruction) = true)
    (l__packed : K.lookup a__packed = some ⟨oc__packed, od__packed, .func (PySem.W.fnOf "_packed" "_packed" (defArgs s__packed) (defBody s__packed) (defScope s__packed) .none kV__packed dc__packed pm__packed an__packed cd__packed ct__packed), sl__packed⟩)
    (c__packed : PySem.W.codeIn K cd__packed "_packed" = true)
    (k__packed : PySem.W.keepIn K (.ref a__packed) = true)
    (l__unpacked : K.lookup a__unpacked = some ⟨oc__unpacked, od__unpacked, .func (PySem.W.fnOf "_unpacked" "_unpacked" (defArgs s__unpacked) (defBody s__unpacked) (defScope s__unpacked) .none kV__unpacked dc__unpacked pm__unpacked an__unpacked cd__unpacked ct__unpacked), sl__unpacked⟩)
    (c__unpacked : PySem.W.codeIn K cd__unpacked "_unpacked" = true)
    (k__unpacked : PySem.W.keepIn K (.ref a__unpacked) = true)
    (l__part_of : K.lookup a__part_of = some ⟨oc__part_of, od__part_of, .func (PySem.W.fnOf "_part_of" "_part_of" (defArgs s__part_of) (defBody s__part_of) (defScope s__part_of) .none kV__part_of dc__part_of pm__part_of an__part_of cd__part_of ct__part_of), sl__part_of⟩)
    (c__part_of : PySem.W.codeIn K cd__part_of "_part_of" = true)
    (k__part_of : PySem.W.keepIn K (.ref a__part_of) = true)
    (l_encode : K.lookup a_encode = some ⟨oc_encode, od_encode, .func (PySem.W.fnOf "encode" "encode" (defArgs s_encode) (defBody s_encode) (defScope s_encode) .none kV_encode dc_encode pm_encode an_encode cd_encode ct_encode), sl_encode⟩)
    (c_encode : PySem.W.codeIn K cd_encode "encode" = true)
    (k_encode : PySem.W.keepIn K (.ref a_encode) = true)
    (l_decode : K.lookup a_decode = some ⟨oc_decode, od_decode, .func (PySem.W.fnOf "decode" "decode" (defArgs s_decode) (defBody s_decode) (defScope s_decode) .none kV_decode dc_decode pm_decode an_decode cd_decode ct_decode), sl_decode⟩)
    (c_decode : PySem.W.codeIn K cd_decode "decode" = true)
    (k_decode : PySem.W.keepIn K (.ref a_decode) = true)
    (l__law_name : K.lookup a__law_name = some ⟨oc__law_name, od__law_name, .func (PySem.W.fnOf "_law_name" "_law_name" (defArgs s__law_name) (defBody s__law_name) (defScope s__law_name) .none kV__law_name dc__law_name pm__law_name an__law_name cd__law_name ct__law_name), sl__law_name⟩)
    (c__law_name : PySem.W.codeIn K cd__law_name "_law_name" = true)
    (k__law_name : PySem.W.keepIn K (.ref a__law_name) = true)
    (l__law_operation : K.lookup a__law_operation = some ⟨oc__law_operation, od__law_operation, .func (PySem.W.fnOf "_law_operation" "_law_operation" (defArgs s__law_operation) (defBody s__law_operation) (defScope s__law_operation) .none kV__law_operation dc__law_operation pm__law_operation an__law_operation cd__law_operation ct__law_operation), sl__law_operation⟩)
    (c__law_operation : PySem.W.codeIn K cd__law_operation "_law_operation" = true)
    (k__law_operation : PySem.W.keepIn K (.ref a__law_operation) = true)
    (l__law_kinds : K.lookup a__law_kinds = some ⟨oc__law_kinds, od__law_kinds, .func (PySem.W.fnOf "_law_kinds" "_law_kinds" (defArgs s__law_kinds) (defBody s__law_kinds) (defScope s__law_kinds) .none kV__law_kinds dc__law_kinds pm__law_kinds an__law_kinds cd__law_kinds ct__law_kinds), sl__law_kinds⟩)
    (c__law_kinds : PySem.W.codeIn K cd__law_kinds "_law_kinds" = true)
    (k__law_kinds : PySem.W.keepIn K (.ref a__law_kinds) = true)
    (l__law_range : K.lookup a__law_range = some ⟨oc__law_range, od__law_range, .func (PySem.W.fnOf "_law_range" "_law_range" (defArgs s__law_range) (defBody s__law_range) (defScope s__law_range) .none kV__law_range dc__law_range pm__law_range an__law_range cd__law_range ct__law_range), sl__law_range⟩)
    (c__law_range : PySem.W.codeIn K cd__law_range "_law_range" = true)
    (k__law_range : PySem.W.keepIn K (.ref a__law_range) = true)
    (l__law_item : K.lookup a__law_item = some ⟨oc__law_item, od__law_item, .func (PySem.W.fnOf "_law_item" "_law_item" (defArgs s__law_item) (defBody s__law_item) (defScope s__law_item) .none kV__law_item dc__law_item pm__law_item an__law_item cd__law_item ct__law_item), sl__law_item⟩)
    (c__law_item : PySem.W.codeIn K cd__law_item "_law_item" = true)
    (k__law_item : PySem.W.keepIn K (.ref a__law_item) = true)
    (l__law_right : K.lookup a__law_right = some ⟨oc__law_right, od__law_right, .func (PySem.W.fnOf "_law_right" "_law_right" (defArgs s__law_right) (defBody s__law_right) (defScope s__law_right) .none kV__law_right dc__law_right pm__law_right an__law_right cd__law_right ct__law_right), sl__law_right⟩)
    (c__law_right : PySem.W.codeIn K cd__law_right "_law_right" = true)
    (k__law_right : PySem.W.keepIn K (.ref a__law_right) = true)
    (l__law_part : K.lookup a__law_part = some ⟨oc__law_part, od__law_part, .func (PySem.W.fnOf "_law_part" "_law_part" (defArgs s__law_part) (defBody s__law_part) (defScope s__law_part) .none kV__law_part dc__law_part pm__law_part an__law_part cd__law_part ct__law_part), sl__law_part⟩)
    (c__law_part : PySem.W.codeIn K cd__law_part "_law_part" = true)
    (k__law_part : PySem.W.keepIn K (.ref a__law_part) = true)
    (l__law_instruction : K.lookup a__law_instruction = some ⟨oc__law_instruction, od__law_instruction, .func (PySem.W.fnOf "_law_instruction" "_law_instruction" (defArgs s__law_instruction) (defBody s__law_instruction) (defScope s__law_instruction) .none kV__law_instruction dc__law_instruction pm__law_instruction an__law_instruction cd__law_instruction ct__law_instruction), sl__law_instruction⟩)
    (c__law_instruction : PySem.W.codeIn K cd__law_instruction "_law_instruction" = true)
    (k__law_instruction : PySem.W.keepIn K (.ref a__law_instruction) = true)
    (l__law_refused : K.lookup a__law_refused = some ⟨oc__law_refused, od__law_refused, .func (PySem.W.fnOf "_law_refused" "_law_refused" (defArgs s__law_refused) (defBody s__law_refused) (defScope s__law_refused) .none kV__law_refused dc__law_refused pm__law_refused an__law_refused cd__law_refused ct__law_refused), sl__law_refused⟩)
    (c__law_refused : PySem.W.codeIn K cd__law_refused "_law_refused" = true)
    (k__law_refused : PySem.W.keepIn K (.ref a__law_refused) = true)
    (l__law_holds : K.lookup a__law_holds = some ⟨oc__law_holds, od__law_holds, .func (PySem.W.fnOf "_law_holds" "_law_holds" (defArgs s__law_holds) (defBody s__law_holds) (defScope s__law_holds) .none kV__law_holds dc__law_holds pm__law_holds an__law_holds cd__law_holds ct__law_holds), sl__law_holds⟩)
    (c__law_holds : PySem.W.codeIn K cd__law_holds "_law_holds" = true)
    (k__law_holds : PySem.W.keepIn K (.ref a__law_holds) = true)
    (l_law : K.lookup a_law = some ⟨oc_law, od_law, .func (PySem.W.fnOf "law" "law" (defArgs s_law) (defBody s_law) (defScope s_law) .none kV_law dc_law pm_law an_law cd_law ct_law), sl_law⟩)
    (c_law : PySem.W.codeIn K cd_law "law" = true)
    (k_law : PySem.W.keepIn K (.ref a_law) = true)
    (zs_super : PySem.W.nsIn K mainGlobals "super" = some none)
    (zt_third : PySem.W.nsIn K PySem.cStatics "thirdparty.any" = some none)
    (zq_top : (List.lookup (PySem.Str.ofString "super") P.main.scope.names).isSome = false)
    (xl_CodeError : K.lookup C_CodeError = some (excClassObj nm_CodeError q_CodeError C_CodeError N_CodeError bs_CodeError bm_CodeError true sn_CodeError sub_CodeError ab_CodeError col_CodeError dd_CodeError m0_CodeError m1_CodeError m2_CodeError m3_CodeError m5_CodeError "ValueError.__new__"))
    (xb_CodeError : PySem.HandSPX.refsVE bm_CodeError = true)
    (xi_CodeError : PySem.W.excInitIn K C_CodeError PySem.HandSPX.veTail "ValueError.__new__" = true)
    (xs_CodeError : PySem.W.ks_superIn K C_CodeError C_CodeError "__init__" = some (some (.builtin "ValueError.__init__")))
    (xv_CodeError : PySem.W.subIn K (.ref C_CodeError) (.type "ValueError") = some true)
    (xm_CodeError : PySem.W.mroIn K C_CodeError (.ref C_CodeError) = some true)
    (xo_CodeError : PySem.W.mroIn K C_CodeError (.type "object") = some true)
    (xa_CodeError : PySem.W.findIn K (.ref C_CodeError) "__setattr__" = some (some (.builtin "object.__setattr__")))
    (xg_CodeError : PySem.W.findIn K (.ref C_CodeError) "__getattribute__" = some (some (.builtin "BaseException.__getattribute__")))
    (xh_CodeError : PySem.W.findIn K (.ref C_CodeError) "__getattr__" = some none)
    (xn_CodeError : PySem.W.findIn K (.ref C_CodeError) "at" = some none)
    (xc_CodeError : PySem.W.findIn K (.ref C_CodeError) "__class__" = some (some (.builtin "object.__class__")))
    (xf_CodeError : PySem.W.findIn K (.ref C_CodeError) "__init__" = some (some (.ref f_CodeError)))
    (xt_CodeError : PySem.W.typeIn K (.ref f_CodeError) = some (.type "function"))
    (xk_CodeError : PySem.W.keepIn K (.ref C_CodeError) = true)
    (xe_CodeError : PySem.W.subIn K (.ref C_CodeError) (.type "BaseException") = some true)
    (xy_CodeError : PySem.W.typeIn K (.ref C_CodeError) = some (.type "type"))
    (xd_CodeError : PySem.W.hasDictIn K C_CodeError = true)
    (xu_CodeError : PySem.W.isClsIn K C_CodeError = true)
    (xw_CodeError : PySem.W.subIn K (.ref C_CodeError) (.ref C_CodeError) = some true)
    (xp_CodeError : PySem.W.specialIn K (.builtin "object.__class__") "__get__" = some (some (.builtin "getset_descriptor.__get__")))
    (xq_CodeError : PySem.W.takesIn K (.builtin "object.__class__") = some true)
    (l_CodeError : K.lookup f_CodeError = some ⟨oc_CodeError, od_CodeError, .func (PySem.W.ksFn "__init__" "CodeError.__init__" (PySem.Errs.eA "at" ⟨19, 17, 19, 21⟩ ⟨19, 23, 19, 25⟩) (PySem.Errs.eB "at" parts_CodeError ⟨20, 25, 20, 49⟩ ⟨20, 8, 20, 13⟩ ⟨20, 8, 20, 15⟩ ⟨20, 8, 20, 24⟩ ⟨20, 8, 20, 50⟩ ⟨20, 8, 20, 50⟩ ⟨21, 8, 21, 12⟩ ⟨21, 8, 21, 15⟩ ⟨21, 18, 21, 20⟩ ⟨21, 8, 21, 20⟩) (PySem.Errs.eS "at" [("decimal", .globalImplicit)]) .none .none dc_CodeError pm_CodeError an_CodeError (.ref cda_CodeError) ct_CodeError cc_CodeError), osl_CodeError⟩)
    (d_CodeError : K.lookup cda_CodeError = some ⟨ccl_CodeError, cdd_CodeError, .fields vs_CodeError, ccs_CodeError⟩)
    (e_CodeError : vs_CodeError[1]? = some (.str "CodeError.__init__" tq_CodeError))
    (g_CodeError : vs_CodeError[2]? = some (.str file_CodeError tf_CodeError))
    (h_CodeError : (P.main.file == file_CodeError) = true)
    (i_CodeError : K.lookup cc_CodeError = some ⟨cl_CodeError, cld_CodeError, .cell (some (.ref C_CodeError)), csl_CodeError⟩)
    (kt_CodeError_DeadbeatError : PySem.W.kitOne K (.ref C_CodeError) (.ref C_DeadbeatError) = some true)
    (kt_CodeError_ValueError : PySem.W.kitOne K (.ref C_CodeError) (.type "ValueError") = some true)
    (z_str : PySem.W.nsIn K mainGlobals "str" = some none)
    (z_divmod : PySem.W.nsIn K mainGlobals "divmod" = some none)
    (z_abs : PySem.W.nsIn K mainGlobals "abs" = some none)
    (z_list : PySem.W.nsIn K mainGlobals "list" = some none)
    (z_int : PySem.W.nsIn K mainGlobals "int" = some none)
    (z_len : PySem.W.nsIn K mainGlobals "len" = some none)
    (z_isinstance : PySem.W.nsIn K mainGlobals "isinstance" = some none)
    (z_zip : PySem.W.nsIn K mainGlobals "zip" = some none)
    (z_all : PySem.W.nsIn K mainGlobals "all" = some none)
    (z_tuple : PySem.W.nsIn K mainGlobals "tuple" = some none)
    (z_range : PySem.W.nsIn K mainGlobals "range" = some none)
    (z_ValueError : PySem.W.nsIn K mainGlobals "ValueError" = some none)
    (z_bool : PySem.W.nsIn K mainGlobals "bool" = some none)
    (v_PIECE : PySem.W.nsIn K mainGlobals "PIECE" = some (some (.int 1000000000000000000 t_PIECE)))
    (v_PIECE_DIGITS : PySem.W.nsIn K mainGlobals "PIECE_DIGITS" = some (some (.int 18 t_PIECE_DIGITS)))
    (v_RANGES : PySem.W.nsIn K mainGlobals "RANGES" = some (some (.ref p_RANGES)))
    (u_RANGES : K.lookup p_RANGES = some ⟨.type "dict", none, .dict e_RANGES n_RANGES, #[]⟩)
    (kl_RANGES : PySem.W.KeysLit w.params e_RANGES.toList)
    (zq_RANGES : (p_RANGES == sysModules) = false)
    (i_RANGES_0 : PySem.W.nsIn K p_RANGES "r" = some (some (.ref t_RANGES_0)))
    (w_RANGES_0 : K.lookup t_RANGES_0 = some ⟨.type "tuple", dd_RANGES_0, .seq us_RANGES_0 n_RANGES_0, sl_RANGES_0⟩)
    (y_RANGES_0 : Vals [.int (0), .int (8)] us_RANGES_0.toList)
    (i_RANGES_1 : PySem.W.nsIn K p_RANGES "s" = some (some (.ref t_RANGES_1)))
    (w_RANGES_1 : K.lookup t_RANGES_1 = some ⟨.type "tuple", dd_RANGES_1, .seq us_RANGES_1 n_RANGES_1, sl_RANGES_1⟩)
    (y_RANGES_1 : Vals [.int (0), .int (8)] us_RANGES_1.toList)
    (i_RANGES_2 : PySem.W.nsIn K p_RANGES "t" = some (some (.ref t_RANGES_2)))
    (w_RANGES_2 : K.lookup t_RANGES_2 = some ⟨.type "tuple", dd_RANGES_2, .seq us_RANGES_2 n_RANGES_2, sl_RANGES_2⟩)
    (y_RANGES_2 : Vals [.int (0), .int (8)] us_RANGES_2.toList)
    (i_RANGES_3 : PySem.W.nsIn K p_RANGES "signed" = some (some (.ref t_RANGES_3)))
    (w_RANGES_3 : K.lookup t_RANGES_3 = some ⟨.type "tuple", dd_RANGES_3, .seq us_RANGES_3 n_RANGES_3, sl_RANGES_3⟩)
    (y_RANGES_3 : Vals [.int (-32768), .int (32767)] us_RANGES_3.toList)
    (i_RANGES_4 : PySem.W.nsIn K p_RANGES "upper" = some (some (.ref t_RANGES_4)))
    (w_RANGES_4 : K.lookup t_RANGES_4 = some ⟨.type "tuple", dd_RANGES_4, .seq us_RANGES_4 n_RANGES_4, sl_RANGES_4⟩)
    (y_RANGES_4 : Vals [.int (0), .int (65535)] us_RANGES_4.toList)
    (i_RANGES_5 : PySem.W.nsIn K p_RANGES "a" = some (some (.ref t_RANGES_5)))
    (w_RANGES_5 : K.lookup t_RANGES_5 = some ⟨.type "tuple", dd_RANGES_5, .seq us_RANGES_5 n_RANGES_5, sl_RANGES_5⟩)
    (y_RANGES_5 : Vals [.int (0), .int (16383)] us_RANGES_5.toList)
    (i_RANGES_6 : PySem.W.nsIn K p_RANGES "cells" = some (some (.ref t_RANGES_6)))
    (w_RANGES_6 : K.lookup t_RANGES_6 = some ⟨.type "tuple", dd_RANGES_6, .seq us_RANGES_6 n_RANGES_6, sl_RANGES_6⟩)
    (y_RANGES_6 : Vals [.int (1), .int (64)] us_RANGES_6.toList)
    (i_RANGES_7 : PySem.W.nsIn K p_RANGES "c" = some (some (.ref t_RANGES_7)))
    (w_RANGES_7 : K.lookup t_RANGES_7 = some ⟨.type "tuple", dd_RANGES_7, .seq us_RANGES_7 n_RANGES_7, sl_RANGES_7⟩)
    (y_RANGES_7 : Vals [.int (0), .int (255)] us_RANGES_7.toList)
    (i_RANGES_8 : PySem.W.nsIn K p_RANGES "rounds" = some (some (.ref t_RANGES_8)))
    (w_RANGES_8 : K.lookup t_RANGES_8 = some ⟨.type "tuple", dd_RANGES_8, .seq us_RANGES_8 n_RANGES_8, sl_RANGES_8⟩)
    (y_RANGES_8 : Vals [.int (1), .int (64)] us_RANGES_8.toList)
    (i_RANGES_9 : PySem.W.nsIn K p_RANGES "p" = some (some (.ref t_RANGES_9)))
    (w_RANGES_9 : K.lookup t_RANGES_9 = some ⟨.type "tuple", dd_RANGES_9, .seq us_RANGES_9 n_RANGES_9, sl_RANGES_9⟩)
    (y_RANGES_9 : Vals [.int (0), .int (4095)] us_RANGES_9.toList)
    (i_RANGES_10 : PySem.W.nsIn K p_RANGES "o" = some (some (.ref t_RANGES_10)))
    (w_RANGES_10 : K.lookup t_RANGES_10 = some ⟨.type "tuple", dd_RANGES_10, .seq us_RANGES_10 n_RANGES_10, sl_RANGES_10⟩)
    (y_RANGES_10 : Vals [.int (0), .int (3)] us_RANGES_10.toList)
    (i_RANGES_11 : PySem.W.nsIn K p_RANGES "q" = some (some (.ref t_RANGES_11)))
    (w_RANGES_11 : K.lookup t_RANGES_11 = some ⟨.type "tuple", dd_RANGES_11, .seq us_RANGES_11 n_RANGES_11, sl_RANGES_11⟩)
    (y_RANGES_11 : Vals [.int (0), .int (7)] us_RANGES_11.toList)
    (v_CALCULATIONS : PySem.W.nsIn K mainGlobals "CALCULATIONS" = some (some (.ref p_CALCULATIONS)))
    (w_CALCULATIONS : K.lookup p_CALCULATIONS = some ⟨.type "tuple", none, .seq us_CALCULATIONS n_CALCULATIONS, sl_CALCULATIONS⟩)
    (y_CALCULATIONS : Vals [.str "add", .str "sub", .str "mul", .str "div", .str "mod", .str "and", .str "or", .str "xor", .str "shl", .str "shr", .str "ult", .str "ule", .str "slt", .str "sle", .str "eq", .str "ne", .str "nor"] us_CALCULATIONS.toList)
    (v_DATA_WORDS : PySem.W.nsIn K mainGlobals "DATA_WORDS" = some (some (.int 16384 t_DATA_WORDS)))
    (v_FORMS : PySem.W.nsIn K mainGlobals "FORMS" = some (some (.ref p_FORMS)))
    (u_FORMS : K.lookup p_FORMS = some ⟨.type "dict", none, .dict e_FORMS n_FORMS, #[]⟩)
    (kl_FORMS : PySem.W.KeysLit w.params e_FORMS.toList)
    (zq_FORMS : (p_FORMS == sysModules) = false)
    (i_FORMS_0 : PySem.W.nsIn K p_FORMS "set" = some (some (.ref t_FORMS_0)))
    (w_FORMS_0 : K.lookup t_FORMS_0 = some ⟨.type "tuple", dd_FORMS_0, .seq us_FORMS_0 n_FORMS_0, sl_FORMS_0⟩)
    (y_FORMS_0 : Vals [.str "r", .str "signed"] us_FORMS_0.toList)
    (i_FORMS_1 : PySem.W.nsIn K p_FORMS "high" = some (some (.ref t_FORMS_1)))
    (w_FORMS_1 : K.lookup t_FORMS_1 = some ⟨.type "tuple", dd_FORMS_1, .seq us_FORMS_1 n_FORMS_1, sl_FORMS_1⟩)
    (y_FORMS_1 : Vals [.str "r", .str "upper"] us_FORMS_1.toList)
    (i_FORMS_2 : PySem.W.nsIn K p_FORMS "calc" = some (some (.ref t_FORMS_2)))
    (w_FORMS_2 : K.lookup t_FORMS_2 = some ⟨.type "tuple", dd_FORMS_2, .seq us_FORMS_2 n_FORMS_2, sl_FORMS_2⟩)
    (y_FORMS_2 : Vals [.str "k", .str "r", .str "s", .str "t"] us_FORMS_2.toList)
    (i_FORMS_3 : PySem.W.nsIn K p_FORMS "load" = some (some (.ref t_FORMS_3)))
    (w_FORMS_3 : K.lookup t_FORMS_3 = some ⟨.type "tuple", dd_FORMS_3, .seq us_FORMS_3 n_FORMS_3, sl_FORMS_3⟩)
    (y_FORMS_3 : Vals [.str "r", .str "a"] us_FORMS_3.toList)
    (i_FORMS_4 : PySem.W.nsIn K p_FORMS "store" = some (some (.ref t_FORMS_4)))
    (w_FORMS_4 : K.lookup t_FORMS_4 = some ⟨.type "tuple", dd_FORMS_4, .seq us_FORMS_4 n_FORMS_4, sl_FORMS_4⟩)
    (y_FORMS_4 : Vals [.str "r", .str "a"] us_FORMS_4.toList)
    (i_FORMS_5 : PySem.W.nsIn K p_FORMS "loadx" = some (some (.ref t_FORMS_5)))
    (w_FORMS_5 : K.lookup t_FORMS_5 = some ⟨.type "tuple", dd_FORMS_5, .seq us_FORMS_5 n_FORMS_5, sl_FORMS_5⟩)
    (y_FORMS_5 : Vals [.str "r", .str "s", .str "a", .str "cells"] us_FORMS_5.toList)
    (i_FORMS_6 : PySem.W.nsIn K p_FORMS "storex" = some (some (.ref t_FORMS_6)))
    (w_FORMS_6 : K.lookup t_FORMS_6 = some ⟨.type "tuple", dd_FORMS_6, .seq us_FORMS_6 n_FORMS_6, sl_FORMS_6⟩)
    (y_FORMS_6 : Vals [.str "r", .str "s", .str "a", .str "cells"] us_FORMS_6.toList)
    (i_FORMS_7 : PySem.W.nsIn K p_FORMS "jump" = some (some (.ref t_FORMS_7)))
    (w_FORMS_7 : K.lookup t_FORMS_7 = some ⟨.type "tuple", dd_FORMS_7, .seq us_FORMS_7 n_FORMS_7, sl_FORMS_7⟩)
    (y_FORMS_7 : Vals [.str "p"] us_FORMS_7.toList)
    (i_FORMS_8 : PySem.W.nsIn K p_FORMS "jzero" = some (some (.ref t_FORMS_8)))
    (w_FORMS_8 : K.lookup t_FORMS_8 = some ⟨.type "tuple", dd_FORMS_8, .seq us_FORMS_8 n_FORMS_8, sl_FORMS_8⟩)
    (y_FORMS_8 : Vals [.str "r", .str "p"] us_FORMS_8.toList)
    (i_FORMS_9 : PySem.W.nsIn K p_FORMS "count" = some (some (.ref t_FORMS_9)))
    (w_FORMS_9 : K.lookup t_FORMS_9 = some ⟨.type "tuple", dd_FORMS_9, .seq us_FORMS_9 n_FORMS_9, sl_FORMS_9⟩)
    (y_FORMS_9 : Vals [.str "c", .str "rounds"] us_FORMS_9.toList)
    (i_FORMS_10 : PySem.W.nsIn K p_FORMS "again" = some (some (.ref t_FORMS_10)))
    (w_FORMS_10 : K.lookup t_FORMS_10 = some ⟨.type "tuple", dd_FORMS_10, .seq us_FORMS_10 n_FORMS_10, sl_FORMS_10⟩)
    (y_FORMS_10 : Vals [.str "c", .str "p"] us_FORMS_10.toList)
    (i_FORMS_11 : PySem.W.nsIn K p_FORMS "link" = some (some (.ref t_FORMS_11)))
    (w_FORMS_11 : K.lookup t_FORMS_11 = some ⟨.type "tuple", dd_FORMS_11, .seq us_FORMS_11 n_FORMS_11, sl_FORMS_11⟩)
    (y_FORMS_11 : Vals [.str "p"] us_FORMS_11.toList)
    (i_FORMS_12 : PySem.W.nsIn K p_FORMS "back" = some (some (.ref t_FORMS_12)))
    (w_FORMS_12 : K.lookup t_FORMS_12 = some ⟨.type "tuple", dd_FORMS_12, .seq us_FORMS_12 n_FORMS_12, sl_FORMS_12⟩)
    (y_FORMS_12 : Vals [] us_FORMS_12.toList)
    (i_FORMS_13 : PySem.W.nsIn K p_FORMS "done" = some (some (.ref t_FORMS_13)))
    (w_FORMS_13 : K.lookup t_FORMS_13 = some ⟨.type "tuple", dd_FORMS_13, .seq us_FORMS_13 n_FORMS_13, sl_FORMS_13⟩)
    (y_FORMS_13 : Vals [] us_FORMS_13.toList)
    (i_FORMS_14 : PySem.W.nsIn K p_FORMS "enter" = some (some (.ref t_FORMS_14)))
    (w_FORMS_14 : K.lookup t_FORMS_14 = some ⟨.type "tuple", dd_FORMS_14, .seq us_FORMS_14 n_FORMS_14, sl_FORMS_14⟩)
    (y_FORMS_14 : Vals [.str "o"] us_FORMS_14.toList)
    (i_FORMS_15 : PySem.W.nsIn K p_FORMS "leave" = some (some (.ref t_FORMS_15)))
    (w_FORMS_15 : K.lookup t_FORMS_15 = some ⟨.type "tuple", dd_FORMS_15, .seq us_FORMS_15 n_FORMS_15, sl_FORMS_15⟩)
    (y_FORMS_15 : Vals [.str "o"] us_FORMS_15.toList)
    (i_FORMS_16 : PySem.W.nsIn K p_FORMS "in" = some (some (.ref t_FORMS_16)))
    (w_FORMS_16 : K.lookup t_FORMS_16 = some ⟨.type "tuple", dd_FORMS_16, .seq us_FORMS_16 n_FORMS_16, sl_FORMS_16⟩)
    (y_FORMS_16 : Vals [.str "r", .str "q"] us_FORMS_16.toList)
    (i_FORMS_17 : PySem.W.nsIn K p_FORMS "out" = some (some (.ref t_FORMS_17)))
    (w_FORMS_17 : K.lookup t_FORMS_17 = some ⟨.type "tuple", dd_FORMS_17, .seq us_FORMS_17 n_FORMS_17, sl_FORMS_17⟩)
    (y_FORMS_17 : Vals [.str "r", .str "q"] us_FORMS_17.toList)
    (xm_FORMS_0 : PySem.W.nsIn K p_FORMS "halt" = some none)
    (xm_FORMS_1 : PySem.W.nsIn K p_FORMS "" = some none)
    (v_SIGNED_VALUES : PySem.W.nsIn K mainGlobals "SIGNED_VALUES" = some (some (.int 65536 t_SIGNED_VALUES)))
    (v_GREATEST_SIGNED : PySem.W.nsIn K mainGlobals "GREATEST_SIGNED" = some (some (.int 32767 t_GREATEST_SIGNED)))
    (v_BITS : PySem.W.nsIn K mainGlobals "BITS" = some (some (.ref p_BITS)))
    (u_BITS : K.lookup p_BITS = some ⟨.type "dict", none, .dict e_BITS n_BITS, #[]⟩)
    (kl_BITS : PySem.W.KeysLit w.params e_BITS.toList)
    (zq_BITS : (p_BITS == sysModules) = false)
    (i_BITS_0 : PySem.W.nsIn K p_BITS "r" = some (some (.ref t_BITS_0)))
    (w_BITS_0 : K.lookup t_BITS_0 = some ⟨.type "tuple", dd_BITS_0, .seq us_BITS_0 n_BITS_0, sl_BITS_0⟩)
    (y_BITS_0 : Vals [.int (26), .int (4)] us_BITS_0.toList)
    (i_BITS_1 : PySem.W.nsIn K p_BITS "s" = some (some (.ref t_BITS_1)))
    (w_BITS_1 : K.lookup t_BITS_1 = some ⟨.type "tuple", dd_BITS_1, .seq us_BITS_1 n_BITS_1, sl_BITS_1⟩)
    (y_BITS_1 : Vals [.int (22), .int (4)] us_BITS_1.toList)
    (i_BITS_2 : PySem.W.nsIn K p_BITS "t" = some (some (.ref t_BITS_2)))
    (w_BITS_2 : K.lookup t_BITS_2 = some ⟨.type "tuple", dd_BITS_2, .seq us_BITS_2 n_BITS_2, sl_BITS_2⟩)
    (y_BITS_2 : Vals [.int (18), .int (4)] us_BITS_2.toList)
    (i_BITS_3 : PySem.W.nsIn K p_BITS "k" = some (some (.ref t_BITS_3)))
    (w_BITS_3 : K.lookup t_BITS_3 = some ⟨.type "tuple", dd_BITS_3, .seq us_BITS_3 n_BITS_3, sl_BITS_3⟩)
    (y_BITS_3 : Vals [.int (13), .int (5)] us_BITS_3.toList)
    (i_BITS_4 : PySem.W.nsIn K p_BITS "signed" = some (some (.ref t_BITS_4)))
    (w_BITS_4 : K.lookup t_BITS_4 = some ⟨.type "tuple", dd_BITS_4, .seq us_BITS_4 n_BITS_4, sl_BITS_4⟩)
    (y_BITS_4 : Vals [.int (0), .int (16)] us_BITS_4.toList)
    (i_BITS_5 : PySem.W.nsIn K p_BITS "upper" = some (some (.ref t_BITS_5)))
    (w_BITS_5 : K.lookup t_BITS_5 = some ⟨.type "tuple", dd_BITS_5, .seq us_BITS_5 n_BITS_5, sl_BITS_5⟩)
    (y_BITS_5 : Vals [.int (0), .int (16)] us_BITS_5.toList)
    (i_BITS_6 : PySem.W.nsIn K p_BITS "a" = some (some (.ref t_BITS_6)))
    (w_BITS_6 : K.lookup t_BITS_6 = some ⟨.type "tuple", dd_BITS_6, .seq us_BITS_6 n_BITS_6, sl_BITS_6⟩)
    (y_BITS_6 : Vals [.int (0), .int (14)] us_BITS_6.toList)
    (i_BITS_7 : PySem.W.nsIn K p_BITS "cells" = some (some (.ref t_BITS_7)))
    (w_BITS_7 : K.lookup t_BITS_7 = some ⟨.type "tuple", dd_BITS_7, .seq us_BITS_7 n_BITS_7, sl_BITS_7⟩)
    (y_BITS_7 : Vals [.int (14), .int (6)] us_BITS_7.toList)
    (i_BITS_8 : PySem.W.nsIn K p_BITS "c" = some (some (.ref t_BITS_8)))
    (w_BITS_8 : K.lookup t_BITS_8 = some ⟨.type "tuple", dd_BITS_8, .seq us_BITS_8 n_BITS_8, sl_BITS_8⟩)
    (y_BITS_8 : Vals [.int (22), .int (8)] us_BITS_8.toList)
    (i_BITS_9 : PySem.W.nsIn K p_BITS "rounds" = some (some (.ref t_BITS_9)))
    (w_BITS_9 : K.lookup t_BITS_9 = some ⟨.type "tuple", dd_BITS_9, .seq us_BITS_9 n_BITS_9, sl_BITS_9⟩)
    (y_BITS_9 : Vals [.int (0), .int (6)] us_BITS_9.toList)
    (i_BITS_10 : PySem.W.nsIn K p_BITS "p" = some (some (.ref t_BITS_10)))
    (w_BITS_10 : K.lookup t_BITS_10 = some ⟨.type "tuple", dd_BITS_10, .seq us_BITS_10 n_BITS_10, sl_BITS_10⟩)
    (y_BITS_10 : Vals [.int (0), .int (12)] us_BITS_10.toList)
    (i_BITS_11 : PySem.W.nsIn K p_BITS "o" = some (some (.ref t_BITS_11)))
    (w_BITS_11 : K.lookup t_BITS_11 = some ⟨.type "tuple", dd_BITS_11, .seq us_BITS_11 n_BITS_11, sl_BITS_11⟩)
    (y_BITS_11 : Vals [.int (0), .int (4)] us_BITS_11.toList)
    (i_BITS_12 : PySem.W.nsIn K p_BITS "q" = some (some (.ref t_BITS_12)))
    (w_BITS_12 : K.lookup t_BITS_12 = some ⟨.type "tuple", dd_BITS_12, .seq us_BITS_12 n_BITS_12, sl_BITS_12⟩)
    (y_BITS_12 : Vals [.int (0), .int (4)] us_BITS_12.toList)
    (v_NAMES : PySem.W.nsIn K mainGlobals "NAMES" = some (some (.ref p_NAMES)))
    (w_NAMES : K.lookup p_NAMES = some ⟨.type "tuple", none, .seq us_NAMES n_NAMES, sl_NAMES⟩)
    (y_NAMES : Vals [.str "set", .str "high", .str "calc", .str "load", .str "store", .str "loadx", .str "storex", .str "jump", .str "jzero", .str "count", .str "again", .str "link", .str "back", .str "done", .str "enter", .str "leave", .str "in", .str "out"] us_NAMES.toList)
    (v_OPCODE_BIT : PySem.W.nsIn K mainGlobals "OPCODE_BIT" = some (some (.int 30 t_OPCODE_BIT))) :
    Top P w K mg :=
  { a_decimal := a_decimal,
    d_decimal := _,
    F_decimal := fun_mk (st := s_decimal) l_decimal c_decimal k_decimal,
    g_decimal := PySem.W.mg_of X G n_decimal,
    b_decimal := (fun_mk (st := s_decimal) l_decimal c_decimal k_decimal).binds (ps := ["n"]) fun _ _ _ _ _ _ us hl => match us, hl with | [_], _ => rfl,
    a__law_start := a__law_start,
    d__law_start := _,
    F__law_start := fun_mk (st := s__law_start) l__law_start c__law_start k__law_start,
    g__law_start := PySem.W.mg_of X G n__law_start,
    b__law_start := (fun_mk (st := s__law_start) l__law_start c__law_start k__law_start).binds (ps := ["script"]) fun _ _ _ _ _ _ us hl => match us, hl with | [_], _ => rfl,
    a__law_draw := a__law_draw,
    d__law_draw := _,
    F__law_draw := fun_mk (st := s__law_draw) l__law_draw c__law_draw k__law_draw,
    g__law_draw := PySem.W.mg_of X G n__law_draw,
    b__law_draw := (fun_mk (st := s__law_draw) l__law_draw c__law_draw k__law_draw).binds (ps := ["state", "many"]) fun _ _ _ _ _ _ us hl => match us, hl with | [_, _], _ => rfl,
    a__in_range := a__in_range,
    d__in_range := _,
    F__in_range := fun_mk (st := s__in_range) l__in_range c__in_range k__in_range,
    g__in_range := PySem.W.mg_of X G n__in_range,
    b__in_range := (fun_mk (st := s__in_range) l__in_range c__in_range k__in_range).binds (ps := ["part", "value"]) fun _ _ _ _ _ _ us hl => match us, hl with | [_, _], _ => rfl,
    a_is_instruction := a_is_instruction,
    d_is_instruction := _,
    F_is_instruction := fun_mk (st := s_is_instruction) l_is_instruction c_is_instruction k_is_instruction,
    g_is_instruction := PySem.W.mg_of X G n_is_instruction,
    b_is_instruction := (fun_mk (st := s_is_instruction) l_is_instruction c_is_instruction k_is_instruction).binds (ps := ["item"]) fun _ _ _ _ _ _ us hl => match us, hl with | [_], _ => rfl,
    a__packed := a__packed,
    d__packed := _,
    F__packed := fun_mk (st := s__packed) l__packed c__packed k__packed,
    g__packed := PySem.W.mg_of X G n__packed,
    b__packed := (fun_mk (st := s__packed) l__packed c__packed k__packed).binds (ps := ["part", "value"]) fun _ _ _ _ _ _ us hl => match us, hl with | [_, _], _ => rfl,
    a__unpacked := a__unpacked,
    d__unpacked := _,
    F__unpacked := fun_mk (st := s__unpacked) l__unpacked c__unpacked k__unpacked,
    g__unpacked := PySem.W.mg_of X G n__unpacked,
    b__unpacked := (fun_mk (st := s__unpacked) l__unpacked c__unpacked k__unpacked).binds (ps := ["part", "number"]) fun _ _ _ _ _ _ us hl => match us, hl with | [_, _], _ => rfl,
    a__part_of := a__part_of,
    d__part_of := _,
    F__part_of := fun_mk (st := s__part_of) l__part_of c__part_of k__part_of,
    g__part_of := PySem.W.mg_of X G n__part_of,
    b__part_of := (fun_mk (st := s__part_of) l__part_of c__part_of k__part_of).binds (ps := ["word", "part"]) fun _ _ _ _ _ _ us hl => match us, hl with | [_, _], _ => rfl,
    a_encode := a_encode,
    d_encode := _,
    F_encode := fun_mk (st := s_encode) l_encode c_encode k_encode,
    g_encode := PySem.W.mg_of X G n_encode,
    b_encode := (fun_mk (st := s_encode) l_encode c_encode k_encode).binds (ps := ["instruction"]) fun _ _ _ _ _ _ us hl => match us, hl with | [_], _ => rfl,
    a_decode := a_decode,
    d_decode := _,
    F_decode := fun_mk (st := s_decode) l_decode c_decode k_decode,
    g_decode := PySem.W.mg_of X G n_decode,
    b_decode := (fun_mk (st := s_decode) l_decode c_decode k_decode).binds (ps := ["word"]) fun _ _ _ _ _ _ us hl => match us, hl with | [_], _ => rfl,
    a__law_name := a__law_name,
    d__law_name := _,
    F__law_name := fun_mk (st := s__law_name) l__law_name c__law_name k__law_name,
    g__law_name := PySem.W.mg_of X G n__law_name,
    b__law_name := (fun_mk (st := s__law_name) l__law_name c__law_name k__law_name).binds (ps := ["at"]) fun _ _ _ _ _ _ us hl => match us, hl with | [_], _ => rfl,
    a__law_operation := a__law_operation,
    d__law_operation := _,
    F__law_operation := fun_mk (st := s__law_operation) l__law_operation c__law_operation k__law_operation,
    g__law_operation := PySem.W.mg_of X G n__law_operation,
    b__law_operation := (fun_mk (st := s__law_operation) l__law_operation c__law_operation k__law_operation).binds (ps := ["at"]) fun _ _ _ _ _ _ us hl => match us, hl with | [_], _ => rfl,
    a__law_kinds := a__law_kinds,
    d__law_kinds := _,
    F__law_kinds := fun_mk (st := s__law_kinds) l__law_kinds c__law_kinds k__law_kinds,
    g__law_kinds := PySem.W.mg_of X G n__law_kinds,
    b__law_kinds := (fun_mk (st := s__law_kinds) l__law_kinds c__law_kinds k__law_kinds).binds (ps := ["name"]) fun _ _ _ _ _ _ us hl => match us, hl with | [_], _ => rfl,
    a__law_range := a__law_range,
    d__law_range := _,
    F__law_range := fun_mk (st := s__law_range) l__law_range c__law_range k__law_range,
    g__law_range := PySem.W.mg_of X G n__law_range,
    b__law_range := (fun_mk (st := s__law_range) l__law_range c__law_range k__law_range).binds (ps := ["kind"]) fun _ _ _ _ _ _ us hl => match us, hl with | [_], _ => rfl,
    a__law_item := a__law_item,
    d__law_item := _,
    F__law_item := fun_mk (st := s__law_item) l__law_item c__law_item k__law_item,
    g__law_item := PySem.W.mg_of X G n__law_item,
    b__law_item := (fun_mk (st := s__law_item) l__law_item c__law_item k__law_item).binds (ps := ["state", "kind"]) fun _ _ _ _ _ _ us hl => match us, hl with | [_, _], _ => rfl,
    a__law_right := a__law_right,
    d__law_right := _,
    F__law_right := fun_mk (st := s__law_right) l__law_right c__law_right k__law_right,
    g__law_right := PySem.W.mg_of X G n__law_right,
    b__law_right := (fun_mk (st := s__law_right) l__law_right c__law_right k__law_right).binds (ps := ["kind", "item"]) fun _ _ _ _ _ _ us hl => match us, hl with | [_, _], _ => rfl,
    a__law_part := a__law_part,
    d__law_part := _,
    F__law_part := fun_mk (st := s__law_part) l__law_part c__law_part k__law_part,
    g__law_part := PySem.W.mg_of X G n__law_part,
    b__law_part := (fun_mk (st := s__law_part) l__law_part c__law_part k__law_part).binds (ps := ["name", "kind", "item"]) fun _ _ _ _ _ _ us hl => match us, hl with | [_, _, _], _ => rfl,
    a__law_instruction := a__law_instruction,
    d__law_instruction := _,
    F__law_instruction := fun_mk (st := s__law_instruction) l__law_instruction c__law_instruction k__law_instruction,
    g__law_instruction := PySem.W.mg_of X G n__law_instruction,
    b__law_instruction := (fun_mk (st := s__law_instruction) l__law_instruction c__law_instruction k__law_instruction).binds (ps := ["state"]) fun _ _ _ _ _ _ us hl => match us, hl with | [_], _ => rfl,
    a__law_refused := a__law_refused,
    d__law_refused := _,
    F__law_refused := fun_mk (st := s__law_refused) l__law_refused c__law_refused k__law_refused,
    g__law_refused := PySem.W.mg_of X G n__law_refused,
    b__law_refused := (fun_mk (st := s__law_refused) l__law_refused c__law_refused k__law_refused).binds (ps := ["instruction"]) fun _ _ _ _ _ _ us hl => match us, hl with | [_], _ => rfl,
    a__law_holds := a__law_holds,
    d__law_holds := _,
    F__law_holds := fun_mk (st := s__law_holds) l__law_holds c__law_holds k__law_holds,
    g__law_holds := PySem.W.mg_of X G n__law_holds,
    b__law_holds := (fun_mk (st := s__law_holds) l__law_holds c__law_holds k__law_holds).binds (ps := ["state"]) fun _ _ _ _ _ _ us hl => match us, hl with | [_], _ => rfl,
    a_law := a_law,
    d_law := _,
    F_law := fun_mk (st := s_law) l_law c_law k_law,
    g_law := PySem.W.mg_of X G n_law,
    b_law := (fun_mk (st := s_law) l_law c_law k_law).binds (ps := ["script"]) fun _ _ _ _ _ _ us hl => match us, hl with | [_], _ => rfl,
    C_CodeError := C_CodeError,
    gc_CodeError := PySem.W.mg_of X G nc_CodeError,
    C_DeadbeatError := C_DeadbeatError,
    gc_DeadbeatError := PySem.W.mg_of X G nc_DeadbeatError,
    f_CodeError := f_CodeError,
    x_CodeError := { gC := PySem.W.mg_of X G nc_CodeError, noSuper := PySem.W.mg_none_of X G zs_super, noTop := zq_top, cls := ⟨_, _, _, _, _, _, _, _, _, _, _, _, _, _, _, xl_CodeError, xb_CodeError⟩, ini := xi_CodeError, sup := xs_CodeError, subV := xv_CodeError, mroS := xm_CodeError, third := zt_third, sa := xa_CodeError, ga := xg_CodeError, gg := xh_CodeError, noN := xn_CodeError, iC := xf_CodeError, tC := xt_CodeError, kC := xk_CodeError, exC := xe_CodeError, tyC := xy_CodeError, hdC := xd_CodeError, te := exm_own xe_CodeError xu_CodeError xy_CodeError xw_CodeError, fn := ⟨_, _, _, _, _, _, _, _, _, _, _, _, _, _, _, _, _, _, _, _, _, _, _, _, _, _, _, _, _, _, _, fun _ => ⟨_, rfl⟩, l_CodeError, d_CodeError, e_CodeError, g_CodeError, h_CodeError, i_CodeError⟩ },
    xd_CodeError := ⟨xu_CodeError, xg_CodeError, xh_CodeError, xe_CodeError, xc_CodeError, xp_CodeError, xq_CodeError, xo_CodeError⟩,
    xf_CodeError := ⟨xg_CodeError, xh_CodeError, xe_CodeError, xd_CodeError⟩,
    kt_CodeError_DeadbeatError := kt_CodeError_DeadbeatError,
    kt_CodeError_ValueError := kt_CodeError_ValueError,
    m_str := PySem.W.mg_none_of X G z_str,
    m_divmod := PySem.W.mg_none_of X G z_divmod,
    m_abs := PySem.W.mg_none_of X G z_abs,
    m_list := PySem.W.mg_none_of X G z_list,
    m_int := PySem.W.mg_none_of X G z_int,
    m_len := PySem.W.mg_none_of X G z_len,
    m_isinstance := PySem.W.mg_none_of X G z_isinstance,
    m_zip := PySem.W.mg_none_of X G z_zip,
    m_all := PySem.W.mg_none_of X G z_all,
    m_tuple := PySem.W.mg_none_of X G z_tuple,
    m_range := PySem.W.mg_none_of X G z_range,
    m_ValueError := PySem.W.mg_none_of X G z_ValueError,
    m_bool := PySem.W.mg_none_of X G z_bool,
    t_PIECE := t_PIECE,
    c_PIECE := PySem.W.mg_of X G v_PIECE,
    t_PIECE_DIGITS := t_PIECE_DIGITS,
    c_PIECE_DIGITS := PySem.W.mg_of X G v_PIECE_DIGITS,
    p_RANGES := p_RANGES,
    c_RANGES := PySem.W.mg_of X G v_RANGES,
    e_RANGES := e_RANGES,
    n_RANGES := n_RANGES,
    kd_RANGES := ⟨u_RANGES, kl_RANGES, zq_RANGES⟩,
    t_RANGES_0 := t_RANGES_0,
    i_RANGES_0 := i_RANGES_0,
    q_RANGES_0 := fun H => sqT_lit w_RANGES_0 y_RANGES_0,
    t_RANGES_1 := t_RANGES_1,
    i_RANGES_1 := i_RANGES_1,
    q_RANGES_1 := fun H => sqT_lit w_RANGES_1 y_RANGES_1,
    t_RANGES_2 := t_RANGES_2,
    i_RANGES_2 := i_RANGES_2,
    q_RANGES_2 := fun H => sqT_lit w_RANGES_2 y_RANGES_2,
    t_RANGES_3 := t_RANGES_3,
    i_RANGES_3 := i_RANGES_3,
    q_RANGES_3 := fun H => sqT_lit w_RANGES_3 y_RANGES_3,
    t_RANGES_4 := t_RANGES_4,
    i_RANGES_4 := i_RANGES_4,
    q_RANGES_4 := fun H => sqT_lit w_RANGES_4 y_RANGES_4,
    t_RANGES_5 := t_RANGES_5,
    i_RANGES_5 := i_RANGES_5,
    q_RANGES_5 := fun H => sqT_lit w_RANGES_5 y_RANGES_5,
    t_RANGES_6 := t_RANGES_6,
    i_RANGES_6 := i_RANGES_6,
    q_RANGES_6 := fun H => sqT_lit w_RANGES_6 y_RANGES_6,
    t_RANGES_7 := t_RANGES_7,
    i_RANGES_7 := i_RANGES_7,
    q_RANGES_7 := fun H => sqT_lit w_RANGES_7 y_RANGES_7,
    t_RANGES_8 := t_RANGES_8,
    i_RANGES_8 := i_RANGES_8,
    q_RANGES_8 := fun H => sqT_lit w_RANGES_8 y_RANGES_8,
    t_RANGES_9 := t_RANGES_9,
    i_RANGES_9 := i_RANGES_9,
    q_RANGES_9 := fun H => sqT_lit w_RANGES_9 y_RANGES_9,
    t_RANGES_10 := t_RANGES_10,
    i_RANGES_10 := i_RANGES_10,
    q_RANGES_10 := fun H => sqT_lit w_RANGES_10 y_RANGES_10,
    t_RANGES_11 := t_RANGES_11,
    i_RANGES_11 := i_RANGES_11,
    q_RANGES_11 := fun H => sqT_lit w_RANGES_11 y_RANGES_11,
    p_CALCULATIONS := p_CALCULATIONS,
    c_CALCULATIONS := PySem.W.mg_of X G v_CALCULATIONS,
    l_CALCULATIONS := ⟨_, w_CALCULATIONS, rfl, rfl⟩,
    q_CALCULATIONS := fun H => sqT_lit w_CALCULATIONS y_CALCULATIONS,
    t_DATA_WORDS := t_DATA_WORDS,
    c_DATA_WORDS := PySem.W.mg_of X G v_DATA_WORDS,
    p_FORMS := p_FORMS,
    c_FORMS := PySem.W.mg_of X G v_FORMS,
    e_FORMS := e_FORMS,
    n_FORMS := n_FORMS,
    kd_FORMS := ⟨u_FORMS, kl_FORMS, zq_FORMS⟩,
    t_FORMS_0 := t_FORMS_0,
    i_FORMS_0 := i_FORMS_0,
    q_FORMS_0 := fun H => sqT_lit w_FORMS_0 y_FORMS_0,
    t_FORMS_1 := t_FORMS_1,
    i_FORMS_1 := i_FORMS_1,
    q_FORMS_1 := fun H => sqT_lit w_FORMS_1 y_FORMS_1,
    t_FORMS_2 := t_FORMS_2,
    i_FORMS_2 := i_FORMS_2,
    q_FORMS_2 := fun H => sqT_lit w_FORMS_2 y_FORMS_2,
    t_FORMS_3 := t_FORMS_3,
    i_FORMS_3 := i_FORMS_3,
    q_FORMS_3 := fun H => sqT_lit w_FORMS_3 y_FORMS_3,
    t_FORMS_4 := t_FORMS_4,
    i_FORMS_4 := i_FORMS_4,
    q_FORMS_4 := fun H => sqT_lit w_FORMS_4 y_FORMS_4,
    t_FORMS_5 := t_FORMS_5,
    i_FORMS_5 := i_FORMS_5,
    q_FORMS_5 := fun H => sqT_lit w_FORMS_5 y_FORMS_5,
    t_FORMS_6 := t_FORMS_6,
    i_FORMS_6 := i_FORMS_6,
    q_FORMS_6 := fun H => sqT_lit w_FORMS_6 y_FORMS_6,
    t_FORMS_7 := t_FORMS_7,
    i_FORMS_7 := i_FORMS_7,
    q_FORMS_7 := fun H => sqT_lit w_FORMS_7 y_FORMS_7,
    t_FORMS_8 := t_FORMS_8,
    i_FORMS_8 := i_FORMS_8,
    q_FORMS_8 := fun H => sqT_lit w_FORMS_8 y_FORMS_8,
    t_FORMS_9 := t_FORMS_9,
    i_FORMS_9 := i_FORMS_9,
    q_FORMS_9 := fun H => sqT_lit w_FORMS_9 y_FORMS_9,
    t_FORMS_10 := t_FORMS_10,
    i_FORMS_10 := i_FORMS_10,
    q_FORMS_10 := fun H => sqT_lit w_FORMS_10 y_FORMS_10,
    t_FORMS_11 := t_FORMS_11,
    i_FORMS_11 := i_FORMS_11,
    q_FORMS_11 := fun H => sqT_lit w_FORMS_11 y_FORMS_11,
    t_FORMS_12 := t_FORMS_12,
    i_FORMS_12 := i_FORMS_12,
    q_FORMS_12 := fun H => sqT_lit w_FORMS_12 y_FORMS_12,
    t_FORMS_13 := t_FORMS_13,
    i_FORMS_13 := i_FORMS_13,
    q_FORMS_13 := fun H => sqT_lit w_FORMS_13 y_FORMS_13,
    t_FORMS_14 := t_FORMS_14,
    i_FORMS_14 := i_FORMS_14,
    q_FORMS_14 := fun H => sqT_lit w_FORMS_14 y_FORMS_14,
    t_FORMS_15 := t_FORMS_15,
    i_FORMS_15 := i_FORMS_15,
    q_FORMS_15 := fun H => sqT_lit w_FORMS_15 y_FORMS_15,
    t_FORMS_16 := t_FORMS_16,
    i_FORMS_16 := i_FORMS_16,
    q_FORMS_16 := fun H => sqT_lit w_FORMS_16 y_FORMS_16,
    t_FORMS_17 := t_FORMS_17,
    i_FORMS_17 := i_FORMS_17,
    q_FORMS_17 := fun H => sqT_lit w_FORMS_17 y_FORMS_17,
    x_FORMS_0 := xm_FORMS_0,
    x_FORMS_1 := xm_FORMS_1,
    t_SIGNED_VALUES := t_SIGNED_VALUES,
    c_SIGNED_VALUES := PySem.W.mg_of X G v_SIGNED_VALUES,
    t_GREATEST_SIGNED := t_GREATEST_SIGNED,
    c_GREATEST_SIGNED := PySem.W.mg_of X G v_GREATEST_SIGNED,
    p_BITS := p_BITS,
    c_BITS := PySem.W.mg_of X G v_BITS,
    e_BITS := e_BITS,
    n_BITS := n_BITS,
    kd_BITS := ⟨u_BITS, kl_BITS, zq_BITS⟩,
    t_BITS_0 := t_BITS_0,
    i_BITS_0 := i_BITS_0,
    q_BITS_0 := fun H => sqT_lit w_BITS_0 y_BITS_0,
    t_BITS_1 := t_BITS_1,
    i_BITS_1 := i_BITS_1,
    q_BITS_1 := fun H => sqT_lit w_BITS_1 y_BITS_1,
    t_BITS_2 := t_BITS_2,
    i_BITS_2 := i_BITS_2,
    q_BITS_2 := fun H => sqT_lit w_BITS_2 y_BITS_2,
    t_BITS_3 := t_BITS_3,
    i_BITS_3 := i_BITS_3,
    q_BITS_3 := fun H => sqT_lit w_BITS_3 y_BITS_3,
    t_BITS_4 := t_BITS_4,
    i_BITS_4 := i_BITS_4,
    q_BITS_4 := fun H => sqT_lit w_BITS_4 y_BITS_4,
    t_BITS_5 := t_BITS_5,
    i_BITS_5 := i_BITS_5,
    q_BITS_5 := fun H => sqT_lit w_BITS_5 y_BITS_5,
    t_BITS_6 := t_BITS_6,
    i_BITS_6 := i_BITS_6,
    q_BITS_6 := fun H => sqT_lit w_BITS_6 y_BITS_6,
    t_BITS_7 := t_BITS_7,
    i_BITS_7 := i_BITS_7,
    q_BITS_7 := fun H => sqT_lit w_BITS_7 y_BITS_7,
    t_BITS_8 := t_BITS_8,
    i_BITS_8 := i_BITS_8,
    q_BITS_8 := fun H => sqT_lit w_BITS_8 y_BITS_8,
    t_BITS_9 := t_BITS_9,
    i_BITS_9 := i_BITS_9,
    q_BITS_9 := fun H => sqT_lit w_BITS_9 y_BITS_9,
    t_BITS_10 := t_BITS_10,
    i_BITS_10 := i_BITS_10,
    q_BITS_10 := fun H => sqT_lit w_BITS_10 y_BITS_10,
    t_BITS_11 := t_BITS_11,
    i_BITS_11 := i_BITS_11,
    q_BITS_11 := fun H => sqT_lit w_BITS_11 y_BITS_11,
    t_BITS_12 := t_BITS_12,
    i_BITS_12 := i_BITS_12,
    q_BITS_12 := fun H => sqT_lit w_BITS_12 y_BITS_12,
    p_NAMES := p_NAMES,
    c_NAMES := PySem.W.mg_of X G v_NAMES,
    l_NAMES := ⟨_, w_NAMES, rfl, rfl⟩,
    q_NAMES := fun H => sqT_lit w_NAMES y_NAMES,
    t_OPCODE_BIT := t_OPCODE_BIT,
    c_OPCODE_BIT := PySem.W.mg_of X G v_OPCODE_BIT }
theorem all_mk {l : PySem.W.OpenLaw} {w : World} {K : PySem.W.Frag} {mg : Str → Option Value} {fa : Addr} (T : Top l.prog w K mg) (hfa : mg "law" = some (.ref fa)) :
    ∃ fd : FuncData, (∀ (s : Shared) (v : Value), BindsTo s fd ⟨[v], []⟩ [("script", v)]) ∧ ∀ base : Heap, K.In base → base.Ns mainGlobals mg → FnOk l.prog w K mg base CX0 7 fa fd ["script"] (sp_law K) := by
  have e := hfa.symm.trans T.g_law
  cases e
  refine ⟨T.d_law, fun s v => ?_, fun base _ _ => ok_law T⟩
  obtain ⟨oc, od, kV, doc, pm, an, cdv, ct, osl, e, lk, hcd⟩ := T.F_law.ex
  rw [e]
  exact .of_eq rfl
end Mine
open PySem PySem.W PyProof.Rows
set_option maxHeartbeats 0 in
theorem PySem.Challenge.cw_deadbeat_k17_code_words_come_back_holds : PySem.Challenge.rw_deadbeat_k17_code_words_come_back.Holds := by
  w_on; o_law; k_head; (case hw => w_witness2)
  k_fill
  refine L2.walk_of (l := PySem.Challenge.rw_deadbeat_k17_code_words_come_back) (n := 63) (k := 7) (x := "script") (CX := fun _ => L2.CX0) (sp := fun w => Mine.sp_law _) rfl (by decide) rfl ⟨rfl, by decide, by decide⟩ (fun w h Y => PySem.W.kIn_of Y) ?F (fun _ _ a ns hl _ hS => ⟨a, ns, rfl, hS, hl, fun _ => rfl⟩) (fun _ _ _ _ _ h => h)
  case F =>
    intro w mg fa h KX G hmg
    refine' Mine.all_mk (Mine.top_mk (P := PySem.Challenge.rw_deadbeat_k17_code_words_come_back.prog) (w := w) KX G ?n_decimal ?n__law_start ?n__law_draw ?n__in_range ?n_is_instruction ?n__packed ?n__unpacked ?n__part_of ?n_encode ?n_decode ?n__law_name ?n__law_operation ?n__law_kinds ?n__law_range ?n__law_item ?n__law_right ?n__law_part ?n__law_instruction ?n__law_refused ?n__law_holds ?n_law ?nc_CodeError ?nc_DeadbeatError ?l_decimal ?c_decimal ?k_decimal ?l__law_start ?c__law_start ?k__law_start ?l__law_draw ?c__law_draw ?k__law_draw ?l__in_range ?c__in_range ?k__in_range ?l_is_instruction ?c_is_instruction ?k_is_instruction ?l__packed ?c__packed ?k__packed ?l__unpacked ?c__unpacked ?k__unpacked ?l__part_of ?c__part_of ?k__part_of ?l_encode ?c_encode ?k_encode ?l_decode ?c_decode ?k_decode ?l__law_name ?c__law_name ?k__law_name ?l__law_operation ?c__law_operation ?k__law_operation ?l__law_kinds ?c__law_kinds ?k__law_kinds ?l__law_range ?c__law_range ?k__law_range ?l__law_item ?c__law_item ?k__law_item ?l__law_right ?c__law_right ?k__law_right ?l__law_part ?c__law_part ?k__law_part ?l__law_instruction ?c__law_instruction ?k__law_instruction ?l__law_refused ?c__law_refused ?k__law_refused ?l__law_holds ?c__law_holds ?k__law_holds ?l_law ?c_law ?k_law ?zs_super ?zt_third ?zq_top ?xl_CodeError ?xb_CodeError ?xi_CodeError ?xs_CodeError ?xv_CodeError ?xm_CodeError ?xo_CodeError ?xa_CodeError ?xg_CodeError ?xh_CodeError ?xn_CodeError ?xc_CodeError ?xf_CodeError ?xt_CodeError ?xk_CodeError ?xe_CodeError ?xy_CodeError ?xd_CodeError ?xu_CodeError ?xw_CodeError ?xp_CodeError ?xq_CodeError ?l_CodeError ?d_CodeError ?e_CodeError ?g_CodeError ?h_CodeError ?i_CodeError ?kt_CodeError_DeadbeatError ?kt_CodeError_ValueError ?z_str ?z_divmod ?z_abs ?z_list ?z_int ?z_len ?z_isinstance ?z_zip ?z_all ?z_tuple ?z_range ?z_ValueError ?z_bool ?v_PIECE ?v_PIECE_DIGITS ?v_RANGES ?u_RANGES ?kl_RANGES ?zq_RANGES ?i_RANGES_0 ?w_RANGES_0 ?y_RANGES_0 ?i_RANGES_1 ?w_RANGES_1 ?y_RANGES_1 ?i_RANGES_2 ?w_RANGES_2 ?y_RANGES_2 ?i_RANGES_3 ?w_RANGES_3 ?y_RANGES_3 ?i_RANGES_4 ?w_RANGES_4 ?y_RANGES_4 ?i_RANGES_5 ?w_RANGES_5 ?y_RANGES_5 ?i_RANGES_6 ?w_RANGES_6 ?y_RANGES_6 ?i_RANGES_7 ?w_RANGES_7 ?y_RANGES_7 ?i_RANGES_8 ?w_RANGES_8 ?y_RANGES_8 ?i_RANGES_9 ?w_RANGES_9 ?y_RANGES_9 ?i_RANGES_10 ?w_RANGES_10 ?y_RANGES_10 ?i_RANGES_11 ?w_RANGES_11 ?y_RANGES_11 ?v_CALCULATIONS ?w_CALCULATIONS ?y_CALCULATIONS ?v_DATA_WORDS ?v_FORMS ?u_FORMS ?kl_FORMS ?zq_FORMS ?i_FORMS_0 ?w_FORMS_0 ?y_FORMS_0 ?i_FORMS_1 ?w_FORMS_1 ?y_FORMS_1 ?i_FORMS_2 ?w_FORMS_2 ?y_FORMS_2 ?i_FORMS_3 ?w_FORMS_3 ?y_FORMS_3 ?i_FORMS_4 ?w_FORMS_4 ?y_FORMS_4 ?i_FORMS_5 ?w_FORMS_5 ?y_FORMS_5 ?i_FORMS_6 ?w_FORMS_6 ?y_FORMS_6 ?i_FORMS_7 ?w_FORMS_7 ?y_FORMS_7 ?i_FORMS_8 ?w_FORMS_8 ?y_FORMS_8 ?i_FORMS_9 ?w_FORMS_9 ?y_FORMS_9 ?i_FORMS_10 ?w_FORMS_10 ?y_FORMS_10 ?i_FORMS_11 ?w_FORMS_11 ?y_FORMS_11 ?i_FORMS_12 ?w_FORMS_12 ?y_FORMS_12 ?i_FORMS_13 ?w_FORMS_13 ?y_FORMS_13 ?i_FORMS_14 ?w_FORMS_14 ?y_FORMS_14 ?i_FORMS_15 ?w_FORMS_15 ?y_FORMS_15 ?i_FORMS_16 ?w_FORMS_16 ?y_FORMS_16 ?i_FORMS_17 ?w_FORMS_17 ?y_FORMS_17 ?xm_FORMS_0 ?xm_FORMS_1 ?v_SIGNED_VALUES ?v_GREATEST_SIGNED ?v_BITS ?u_BITS ?kl_BITS ?zq_BITS ?i_BITS_0 ?w_BITS_0 ?y_BITS_0 ?i_BITS_1 ?w_BITS_1 ?y_BITS_1 ?i_BITS_2 ?w_BITS_2 ?y_BITS_2 ?i_BITS_3 ?w_BITS_3 ?y_BITS_3 ?i_BITS_4 ?w_BITS_4 ?y_BITS_4 ?i_BITS_5 ?w_BITS_5 ?y_BITS_5 ?i_BITS_6 ?w_BITS_6 ?y_BITS_6 ?i_BITS_7 ?w_BITS_7 ?y_BITS_7 ?i_BITS_8 ?w_BITS_8 ?y_BITS_8 ?i_BITS_9 ?w_BITS_9 ?y_BITS_9 ?i_BITS_10 ?w_BITS_10 ?y_BITS_10 ?i_BITS_11 ?w_BITS_11 ?y_BITS_11 ?i_BITS_12 ?w_BITS_12 ?y_BITS_12 ?v_NAMES ?w_NAMES ?y_NAMES ?v_OPCODE_BIT) hmg
    (case n_decimal => k_is); (case n__law_start => k_is); (case n__law_draw => k_is); (case n__in_range => k_is); (case n_is_instruction => k_is); (case n__packed => k_is); (case n__unpacked => k_is); (case n__part_of => k_is); (case n_encode => k_is); (case n_decode => k_is); (case n__law_name => k_is); (case n__law_operation => k_is); (case n__law_kinds => k_is); (case n__law_range => k_is); (case n__law_item => k_is); (case n__law_right => k_is); (case n__law_part => k_is); (case n__law_instruction => k_is); (case n__law_refused => k_is); (case n__law_holds => k_is); (case n_law => k_is); (case nc_CodeError => k_is); (case nc_DeadbeatError => k_is); (case l_decimal => k_is); (case c_decimal => k_is); (case k_decimal => k_is); (case l__law_start => k_is); (case c__law_start => k_is); (case k__law_start => k_is); (case l__law_draw => k_is); (case c__law_draw => k_is); (case k__law_draw => k_is); (case l__in_range => k_is); (case c__in_range => k_is); (case k__in_range => k_is); (case l_is_instruction => k_is); (case c_is_instruction => k_is); (case k_is_instruction => k_is); (case l__packed => k_is); (case c__packed => k_is); (case k__packed => k_is); (case l__unpacked => k_is); (case c__unpacked => k_is); (case k__unpacked => k_is); (case l__part_of => k_is); (case c__part_of => k_is); (case k__part_of => k_is); (case l_encode => k_is); (case c_encode => k_is); (case k_encode => k_is); (case l_decode => k_is); (case c_decode => k_is); (case k_decode => k_is); (case l__law_name => k_is); (case c__law_name => k_is); (case k__law_name => k_is); (case l__law_operation => k_is); (case c__law_operation => k_is); (case k__law_operation => k_is); (case l__law_kinds => k_is); (case c__law_kinds => k_is); (case k__law_kinds => k_is); (case l__law_range => k_is); (case c__law_range => k_is); (case k__law_range => k_is); (case l__law_item => k_is); (case c__law_item => k_is); (case k__law_item => k_is); (case l__law_right => k_is); (case c__law_right => k_is); (case k__law_right => k_is); (case l__law_part => k_is); (case c__law_part => k_is); (case k__law_part => k_is); (case l__law_instruction => k_is); (case c__law_instruction => k_is); (case k__law_instruction => k_is); (case l__law_refused => k_is); (case c__law_refused => k_is); (case k__law_refused => k_is); (case l__law_holds => k_is); (case c__law_holds => k_is); (case k__law_holds => k_is); (case l_law => k_is); (case c_law => k_is); (case k_law => k_is); (case zs_super => k_is); (case zt_third => k_is); (case zq_top => first | rfl | k_is | kx_is | ks_is | decide +kernel | kernel_rfl | with_unfolding_all rfl); (case xl_CodeError => k_is); (case xb_CodeError => first | rfl | k_is | kx_is | ks_is | decide +kernel | kernel_rfl | with_unfolding_all rfl); (case xi_CodeError => first | rfl | k_is | kx_is | ks_is | decide +kernel | kernel_rfl | with_unfolding_all rfl); (case xs_CodeError => first | rfl | k_is | kx_is | ks_is | decide +kernel | kernel_rfl | with_unfolding_all rfl); (case xv_CodeError => k_is); (case xm_CodeError => k_is); (case xo_CodeError => k_is); (case xa_CodeError => k_is); (case xg_CodeError => k_is); (case xh_CodeError => k_is); (case xn_CodeError => k_is); (case xc_CodeError => k_is); (case xf_CodeError => k_is); (case xt_CodeError => k_is); (case xk_CodeError => k_is); (case xe_CodeError => k_is); (case xy_CodeError => k_is); (case xd_CodeError => k_is); (case xu_CodeError => k_is); (case xw_CodeError => k_is); (case xp_CodeError => k_is); (case xq_CodeError => k_is); (case l_CodeError => k_is); (case d_CodeError => k_is); (case e_CodeError => first | rfl | k_is | kx_is | ks_is | decide +kernel | kernel_rfl | with_unfolding_all rfl); (case g_CodeError => first | rfl | k_is | kx_is | ks_is | decide +kernel | kernel_rfl | with_unfolding_all rfl); (case h_CodeError => first | rfl | k_is | kx_is | ks_is | decide +kernel | kernel_rfl | with_unfolding_all rfl); (case i_CodeError => k_is); (case kt_CodeError_DeadbeatError => first | rfl | k_is | kx_is | ks_is | decide +kernel | kernel_rfl | with_unfolding_all rfl); (case kt_CodeError_ValueError => first | rfl | k_is | kx_is | ks_is | decide +kernel | kernel_rfl | with_unfolding_all rfl); (case z_str => k_is); (case z_divmod => k_is); (case z_abs => k_is); (case z_list => k_is); (case z_int => k_is); (case z_len => k_is); (case z_isinstance => k_is); (case z_zip => k_is); (case z_all => k_is); (case z_tuple => k_is); (case z_range => k_is); (case z_ValueError => k_is); (case z_bool => k_is); (case v_PIECE => k_is); (case v_PIECE_DIGITS => k_is); (case v_RANGES => k_is); (case u_RANGES => k_is); (case kl_RANGES => (repeat (first | exact trivial | refine ⟨⟨_, _, rfl, rfl⟩, ?_⟩))); (case zq_RANGES => first | rfl | k_is | kx_is | ks_is | decide +kernel | kernel_rfl | with_unfolding_all rfl); (case i_RANGES_0 => k_is); (case w_RANGES_0 => k_is); (case y_RANGES_0 => first | k_is | (repeat (first | exact .nil | refine .cons ⟨_, rfl⟩ ?_))); (case i_RANGES_1 => k_is); (case w_RANGES_1 => k_is); (case y_RANGES_1 => first | k_is | (repeat (first | exact .nil | refine .cons ⟨_, rfl⟩ ?_))); (case i_RANGES_2 => k_is); (case w_RANGES_2 => k_is); (case y_RANGES_2 => first | k_is | (repeat (first | exact .nil | refine .cons ⟨_, rfl⟩ ?_))); (case i_RANGES_3 => k_is); (case w_RANGES_3 => k_is); (case y_RANGES_3 => first | k_is | (repeat (first | exact .nil | refine .cons ⟨_, rfl⟩ ?_))); (case i_RANGES_4 => k_is); (case w_RANGES_4 => k_is); (case y_RANGES_4 => first | k_is | (repeat (first | exact .nil | refine .cons ⟨_, rfl⟩ ?_))); (case i_RANGES_5 => k_is); (case w_RANGES_5 => k_is); (case y_RANGES_5 => first | k_is | (repeat (first | exact .nil | refine .cons ⟨_, rfl⟩ ?_))); (case i_RANGES_6 => k_is); (case w_RANGES_6 => k_is); (case y_RANGES_6 => first | k_is | (repeat (first | exact .nil | refine .cons ⟨_, rfl⟩ ?_))); (case i_RANGES_7 => k_is); (case w_RANGES_7 => k_is); (case y_RANGES_7 => first | k_is | (repeat (first | exact .nil | refine .cons ⟨_, rfl⟩ ?_))); (case i_RANGES_8 => k_is); (case w_RANGES_8 => k_is); (case y_RANGES_8 => first | k_is | (repeat (first | exact .nil | refine .cons ⟨_, rfl⟩ ?_))); (case i_RANGES_9 => k_is); (case w_RANGES_9 => k_is); (case y_RANGES_9 => first | k_is | (repeat (first | exact .nil | refine .cons ⟨_, rfl⟩ ?_))); (case i_RANGES_10 => k_is); (case w_RANGES_10 => k_is); (case y_RANGES_10 => first | k_is | (repeat (first | exact .nil | refine .cons ⟨_, rfl⟩ ?_))); (case i_RANGES_11 => k_is); (case w_RANGES_11 => k_is); (case y_RANGES_11 => first | k_is | (repeat (first | exact .nil | refine .cons ⟨_, rfl⟩ ?_))); (case v_CALCULATIONS => k_is); (case w_CALCULATIONS => k_is); (case y_CALCULATIONS => first | k_is | (repeat (first | exact .nil | refine .cons ⟨_, rfl⟩ ?_))); (case v_DATA_WORDS => k_is); (case v_FORMS => k_is); (case u_FORMS => k_is); (case kl_FORMS => (repeat (first | exact trivial | refine ⟨⟨_, _, rfl, rfl⟩, ?_⟩))); (case zq_FORMS => first | rfl | k_is | kx_is | ks_is | decide +kernel | kernel_rfl | with_unfolding_all rfl); (case i_FORMS_0 => k_is); (case w_FORMS_0 => k_is); (case y_FORMS_0 => first | k_is | (repeat (first | exact .nil | refine .cons ⟨_, rfl⟩ ?_))); (case i_FORMS_1 => k_is); (case w_FORMS_1 => k_is); (case y_FORMS_1 => first | k_is | (repeat (first | exact .nil | refine .cons ⟨_, rfl⟩ ?_))); (case i_FORMS_2 => k_is); (case w_FORMS_2 => k_is); (case y_FORMS_2 => first | k_is | (repeat (first | exact .nil | refine .cons ⟨_, rfl⟩ ?_))); (case i_FORMS_3 => k_is); (case w_FORMS_3 => k_is); (case y_FORMS_3 => first | k_is | (repeat (first | exact .nil | refine .cons ⟨_, rfl⟩ ?_))); (case i_FORMS_4 => k_is); (case w_FORMS_4 => k_is); (case y_FORMS_4 => first | k_is | (repeat (first | exact .nil | refine .cons ⟨_, rfl⟩ ?_))); (case i_FORMS_5 => k_is); (case w_FORMS_5 => k_is); (case y_FORMS_5 => first | k_is | (repeat (first | exact .nil | refine .cons ⟨_, rfl⟩ ?_))); (case i_FORMS_6 => k_is); (case w_FORMS_6 => k_is); (case y_FORMS_6 => first | k_is | (repeat (first | exact .nil | refine .cons ⟨_, rfl⟩ ?_))); (case i_FORMS_7 => k_is); (case w_FORMS_7 => k_is); (case y_FORMS_7 => first | k_is | (repeat (first | exact .nil | refine .cons ⟨_, rfl⟩ ?_))); (case i_FORMS_8 => k_is); (case w_FORMS_8 => k_is); (case y_FORMS_8 => first | k_is | (repeat (first | exact .nil | refine .cons ⟨_, rfl⟩ ?_))); (case i_FORMS_9 => k_is); (case w_FORMS_9 => k_is); (case y_FORMS_9 => first | k_is | (repeat (first | exact .nil | refine .cons ⟨_, rfl⟩ ?_))); (case i_FORMS_10 => k_is); (case w_FORMS_10 => k_is); (case y_FORMS_10 => first | k_is | (repeat (first | exact .nil | refine .cons ⟨_, rfl⟩ ?_))); (case i_FORMS_11 => k_is); (case w_FORMS_11 => k_is); (case y_FORMS_11 => first | k_is | (repeat (first | exact .nil | refine .cons ⟨_, rfl⟩ ?_))); (case i_FORMS_12 => k_is); (case w_FORMS_12 => k_is); (case y_FORMS_12 => first | k_is | (repeat (first | exact .nil | refine .cons ⟨_, rfl⟩ ?_))); (case i_FORMS_13 => k_is); (case w_FORMS_13 => k_is); (case y_FORMS_13 => first | k_is | (repeat (first | exact .nil | refine .cons ⟨_, rfl⟩ ?_))); (case i_FORMS_14 => k_is); (case w_FORMS_14 => k_is); (case y_FORMS_14 => first | k_is | (repeat (first | exact .nil | refine .cons ⟨_, rfl⟩ ?_))); (case i_FORMS_15 => k_is); (case w_FORMS_15 => k_is); (case y_FORMS_15 => first | k_is | (repeat (first | exact .nil | refine .cons ⟨_, rfl⟩ ?_))); (case i_FORMS_16 => k_is); (case w_FORMS_16 => k_is); (case y_FORMS_16 => first | k_is | (repeat (first | exact .nil | refine .cons ⟨_, rfl⟩ ?_))); (case i_FORMS_17 => k_is); (case w_FORMS_17 => k_is); (case y_FORMS_17 => first | k_is | (repeat (first | exact .nil | refine .cons ⟨_, rfl⟩ ?_))); (case xm_FORMS_0 => k_is); (case xm_FORMS_1 => k_is); (case v_SIGNED_VALUES => k_is); (case v_GREATEST_SIGNED => k_is); (case v_BITS => k_is); (case u_BITS => k_is); (case kl_BITS => (repeat (first | exact trivial | refine ⟨⟨_, _, rfl, rfl⟩, ?_⟩))); (case zq_BITS => first | rfl | k_is | kx_is | ks_is | decide +kernel | kernel_rfl | with_unfolding_all rfl); (case i_BITS_0 => k_is); (case w_BITS_0 => k_is); (case y_BITS_0 => first | k_is | (repeat (first | exact .nil | refine .cons ⟨_, rfl⟩ ?_))); (case i_BITS_1 => k_is); (case w_BITS_1 => k_is); (case y_BITS_1 => first | k_is | (repeat (first | exact .nil | refine .cons ⟨_, rfl⟩ ?_))); (case i_BITS_2 => k_is); (case w_BITS_2 => k_is); (case y_BITS_2 => first | k_is | (repeat (first | exact .nil | refine .cons ⟨_, rfl⟩ ?_))); (case i_BITS_3 => k_is); (case w_BITS_3 => k_is); (case y_BITS_3 => first | k_is | (repeat (first | exact .nil | refine .cons ⟨_, rfl⟩ ?_))); (case i_BITS_4 => k_is); (case w_BITS_4 => k_is); (case y_BITS_4 => first | k_is | (repeat (first | exact .nil | refine .cons ⟨_, rfl⟩ ?_))); (case i_BITS_5 => k_is); (case w_BITS_5 => k_is); (case y_BITS_5 => first | k_is | (repeat (first | exact .nil | refine .cons ⟨_, rfl⟩ ?_))); (case i_BITS_6 => k_is); (case w_BITS_6 => k_is); (case y_BITS_6 => first | k_is | (repeat (first | exact .nil | refine .cons ⟨_, rfl⟩ ?_))); (case i_BITS_7 => k_is); (case w_BITS_7 => k_is); (case y_BITS_7 => first | k_is | (repeat (first | exact .nil | refine .cons ⟨_, rfl⟩ ?_))); (case i_BITS_8 => k_is); (case w_BITS_8 => k_is); (case y_BITS_8 => first | k_is | (repeat (first | exact .nil | refine .cons ⟨_, rfl⟩ ?_))); (case i_BITS_9 => k_is); (case w_BITS_9 => k_is); (case y_BITS_9 => first | k_is | (repeat (first | exact .nil | refine .cons ⟨_, rfl⟩ ?_))); (case i_BITS_10 => k_is); (case w_BITS_10 => k_is); (case y_BITS_10 => first | k_is | (repeat (first | exact .nil | refine .cons ⟨_, rfl⟩ ?_))); (case i_BITS_11 => k_is); (case w_BITS_11 => k_is); (case y_BITS_11 => first | k_is | (repeat (first | exact .nil | refine .cons ⟨_, rfl⟩ ?_))); (case i_BITS_12 => k_is); (case w_BITS_12 => k_is); (case y_BITS_12 => first | k_is | (repeat (first | exact .nil | refine .cons ⟨_, rfl⟩ ?_))); (case v_NAMES => k_is); (case w_NAMES => k_is); (case y_NAMES => first | k_is | (repeat (first | exact .nil | refine .cons ⟨_, rfl⟩ ?_))); (case v_OPCODE_BIT => k_is)

