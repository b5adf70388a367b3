import PyProof.Rows.All
import Wide.All
import OpenK.AllK
import Wide.FinOn
import PyProof.RulesMatch
import HandS.Base
import HandS.Call
import HandS.Words
import HandS.IsInst
import HandS.ForExc
import HandS.Zip
import HandS.Walk
import HandS.Strs
import KE.KExcSuper
import KE.KSuperObj
import KE.KSuper
import HandS.ForMost
import HandS.ExcInit
import HandS.ExcSuper
import HandS.ExcField
import HandS.ExcIs
import KE.KExcIs
import KE.KIsAll
import HandS.Evl
import HandS.SortInts
import PySem.Challenge.RW_deadbeat_k04_errors_of_tokens
import HandS.Wide
import HandS.StrMore
import HandS.IntHex
import HandS.ReSub
import HandS.Codes
import HandS.RaiseMore
import HandS.WideBits
import HandS.Style
import HandS.EndBits
import HandS.More
import HandS.SetFor
import HandS.TupLe
set_option Elab.async false
set_option linter.all false
set_option maxRecDepth 100000
namespace L2
open PySem PySem.Spec PyProof.Rows
/-- the cases of a match over texts: a written text or whatever is left, and what is done -/
def tCases (z : Str) : List (Option Str × TS) → TS
  | [] => fun D σ H => D.nx σ H
  | (none, t) :: _ => t
  | (some c, t) :: r => fun D σ H => if z = c then t D σ H else tCases z r D σ H
def tMatch (te : TE) (l : List (Option Str × TS)) : TS := fun D σ H => te σ H fun x H1 => ∃ z : Str, x = .str z ∧ tCases z l D σ H1
inductive PCs (X : Cx) : List MatchCase → List (Option Str × TS) → Prop
  | nil : PCs X [] []
  | rest {body : List Stmt} {t : TS} {p : Pos} {r : List MatchCase} : PSs X body t → PCs X (⟨.MatchAs none none p, none, body⟩ :: r) [(none, t)]
  | text {body : List Stmt} {t : TS} {c : Str} {j : Nat} {p p2 : Pos} {r : List MatchCase} {l : List (Option Str × TS)} : PSs X body t → PCs X r l →
      PCs X (⟨.MatchValue (.Constant (.str c) j p) p2, none, body⟩ :: r) ((some c, t) :: l)
theorem run_cases {X : Cx} {z : Str} {u : Value} (ru : RelV (.str z) u) : ∀ {cs : List MatchCase} {l : List (Option Str × TS)}, PCs X cs l → ∀ (first : Bool) (pins : List (Addr × Obj)) (s : Shared) (σ : St) (H : Hp) (D : Ends), Inv X pins σ H s → tCases z l D σ H →
    wpAny (model X.prog X.w) X.A (matchCases cs X.env u first) (SP X pins D) X.xe s
  | _, _, .nil, first, pins, s, σ, H, D, I, h => wpAny_matchCases_nil ⟨σ, H, I, h⟩
  | _, _, .rest hb, first, pins, s, σ, H, D, I, h => by
    refine wpAny_matchCases_cons (wpAny_matchPattern_Capture ?_)
    exact wpAny_assignInOrder_none (hb.run pins s σ H D I h)
  | _, _, .text (c := c) (l := l) hb hr, first, pins, s, σ, H, D, I, h => by
    refine wpAny_matchCases_cons (wpAny_matchPattern_Value ?_)
    refine thn ((pe_str (X := X) (x := c)).run pins s σ H (fun v H' => v = .str c ∧ H' = H) I ⟨rfl, rfl⟩) fun v s1 hh => ?_
    obtain ⟨x, H1, I1, rx, ex, eH⟩ := hh
    subst ex
    subst eH
    refine thn (op_eq pins s1 σ H1 (.str z) (.str c) u v (fun y H' => y = .bl (decide (V.str z = V.str c)) ∧ H' = H1) I1 ru rx ⟨rfl, rfl, rfl⟩) fun y s2 hh => ?_
    obtain ⟨x, H2, I2, rx2, ex, eH⟩ := hh
    subst ex
    subst eH
    cases rx2
    refine wpAny_truthy_bool ?_
    have h' : (if z = c then _ else _) := h
    by_cases e : z = c
    · rw [if_pos e] at h'
      rw [decide_eq_true (by rw [e])]
      exact wpAny_assignInOrder_none (hb.run pins s2 σ H2 D I2 h')
    · rw [if_neg e] at h'
      rw [decide_eq_false (fun q => e (by injection q))]
      exact run_cases ru hr false pins s2 σ H2 D I2 h'
theorem ps_match {X : Cx} {e : Expr} {te : TE} {cs : List MatchCase} {l : List (Option Str × TS)} {pos : Pos} (he : PE X e te) (hc : PCs X cs l) : PS X (.Match e cs pos) (tMatch te l) := by
  refine ⟨fun pins s σ H D I h => wpAny_Match ?_⟩
  refine thn (he.run pins s σ H _ I h) fun u s1 hh => ?_
  obtain ⟨x, H1, I1, rx, z, ez, hz⟩ := hh
  subst ez
  exact run_cases rx hc true pins s1 σ H1 D I1 hz
/-- a module's constant: an int, a text, an object -/
theorem pe_gi {X : Cx} {x : Str} {n : Int} {t : Tok} {pos : Pos} (hg : Gl X x) (hm : X.mg x = some (.int n t)) (hd : (x == ("__debug__" : Str)) = false := by decide) : PE X (.Name x pos) (tC (.int n)) := pe_glob hg hm ⟨_, rfl⟩ hd
theorem pe_gs {X : Cx} {x : Str} {z : Str} {t : Tok} {pos : Pos} (hg : Gl X x) (hm : X.mg x = some (.str z t)) (hd : (x == ("__debug__" : Str)) = false := by decide) : PE X (.Name x pos) (tC (.str z)) := pe_glob hg hm ⟨_, rfl⟩ hd
theorem pe_gr {X : Cx} {x : Str} {a : Addr} {pos : Pos} (hg : Gl X x) (hm : X.mg x = some (.ref a)) (hd : (x == ("__debug__" : Str)) = false := by decide) : PE X (.Name x pos) (tC (.ref a)) := pe_glob (v := .ref a) hg hm rfl hd
/-- a built-in type as a value -/
theorem pe_ty {X : Cx} {x : Str} {T : String} {pos : Pos} (hg : Gl X x) (hm : X.mg x = none) (hv : bootBuiltins x = some (.type T)) (hn : x ≠ "__name__" := by decide) (hd : (x == ("__debug__" : Str)) = false := by decide) : PE X (.Name x pos) (tC (.ty T)) :=
  ⟨fun _ s _ H _ I h => ld_blt I hg hm hv ⟨.ty T, H, I, rfl, h⟩ hn hd⟩
/-- isinstance of a plain value and a built-in type -/
theorem isi_int {K : PySem.W.Frag} {H : Hp} {Q : VK} {i : Int} (q : Q (.bl true) H) : rIsi K [.int i, .ty "int"] H Q := ⟨_, _, _, _, true, rfl, .ty _, .base (.int _), kit_ty (by decide +kernel), q⟩
theorem isi_int_bool {K : PySem.W.Frag} {H : Hp} {Q : VK} {i : Int} (q : Q (.bl false) H) : rIsi K [.int i, .ty "bool"] H Q := ⟨_, _, _, _, false, rfl, .ty _, .base (.int _), kit_ty (by decide +kernel), q⟩
theorem Same.none {H H' : Hp} (e : Same H H') {p : Addr} (h : H' p = Option.none) : H p = Option.none := Same.free e h
theorem same_new {H : Hp} {p : Addr} {o : HO} (h : H p = Option.none) : Same H (upd H p o) := fun b x e => by
  rw [upd_ne (ne_of_none e h)]
  exact e
theorem or_test {t u : TT} {σ : St} {H : Hp} {a b : Bool} {Q : Bool → Hp → Prop} (h1 : ∀ Q' : Bool → Hp → Prop, Q' a H → t σ H Q') (h2 : a = false → ∀ Q' : Bool → Hp → Prop, Q' b H → u σ H Q') (q : Q (a || b) H) : tOr t u σ H Q := by
  refine h1 _ ?_
  cases a with
  | true => exact iteT q
  | false => exact iteF (h2 rfl _ q)
theorem and_test {t u : TT} {σ : St} {H : Hp} {a b : Bool} {Q : Bool → Hp → Prop} (h1 : ∀ Q' : Bool → Hp → Prop, Q' a H → t σ H Q') (h2 : a = true → ∀ Q' : Bool → Hp → Prop, Q' b H → u σ H Q') (q : Q (a && b) H) : tAnd t u σ H Q := by
  refine h1 _ ?_
  cases a with
  | true => exact iteT (h2 rfl _ q)
  | false => exact iteF q
theorem if_or {t u : TT} {a b : Bool} {A B : TS} {D : Ends} {σ : St} {H : Hp} (h1 : ∀ Q' : Bool → Hp → Prop, Q' a H → t σ H Q') (h2 : a = false → ∀ Q' : Bool → Hp → Prop, Q' b H → u σ H Q') (q : if (a || b) = true then A D σ H else B D σ H) : tIfS (tOr t u) A B D σ H := or_test h1 h2 q
theorem if_and {t u : TT} {a b : Bool} {A B : TS} {D : Ends} {σ : St} {H : Hp} (h1 : ∀ Q' : Bool → Hp → Prop, Q' a H → t σ H Q') (h2 : a = true → ∀ Q' : Bool → Hp → Prop, Q' b H → u σ H Q') (q : if (a && b) = true then A D σ H else B D σ H) : tIfS (tAnd t u) A B D σ H := and_test h1 h2 q
theorem Same.off {H H1 : Hp} {D : Addr} {x : HO} (k : Same H H1) (n : H D = Option.none) : Same H (upd H1 D x) := fun b y e => by
  rw [upd_ne (ne_of_none e n)]
  exact k b y e
theorem Same.seqT {K : PySem.W.Frag} {H H' : Hp} {a : Addr} {xs : List V} (e : Same H H') (h : SqT K H a xs) : SqT K H' a xs := by
  rcases h with h | h
  · rcases h with h | ⟨o, h⟩
    · exact .inl (.inl (e _ _ h))
    · exact .inl (.inr ⟨o, e _ _ h⟩)
  · exact .inr h
/-- a def that may raise, called where it does not -/
theorem pass_no {X : Cx} : Passes (L2.CX X.prog X.w) X (fun _ _ _ => False) := fun _ _ _ _ _ _ _ c => by
  obtain ⟨_, _, _, _, _, _, _, _, _, _, _, _, z⟩ := c
  exact z.elim
def rListOf (K : PySem.W.Frag) : List V → Hp → VK → Prop := fun xs H Q => ∃ p ys, xs = [V.ref p] ∧ (SqL K H p ys ∨ SqT K H p ys) ∧ ∀ l, H l = Option.none → Q (.ref l) (upd H l (.lst ys))
theorem if_t {b : Bool} {A B : Prop} (h : b = true) (q : A) : if b = true then A else B := by
  rw [if_pos h]
  exact q
theorem if_f {b : Bool} {A B : Prop} (h : b = false) (q : B) : if b = true then A else B := by
  rw [if_neg (by rw [h]; exact Bool.noConfusion)]
  exact q
/-- a tuple of the written part, as it stands there -/
theorem sqT_lit {K : PySem.W.Frag} {p : Addr} {dd : Option Addr} {us : Array Value} {n : Nat} {sl : Array (Option Value)} {xs : List V} {H : Hp} (w : K.lookup p = some ⟨.type "tuple", dd, .seq us n, sl⟩) (y : Vals xs us.toList) (hl : xs.length ≤ sizeLine := by decide) : SqT K H p xs :=
  .inr ⟨_, us, n, w, rfl, rfl, Nat.le_trans (Nat.le_of_eq (by rw [← Array.length_toList]; exact (Paired.length y).symm)) hl, y⟩
end L2

set_option Elab.async false
set_option linter.all false
set_option maxRecDepth 100000
set_option maxHeartbeats 4000000
/-! # An error of the program's own: its maker calls that of ValueError with a text, then keeps one value -/
namespace PySem
namespace Errs
open PySem.W PySem.Calls PyProof.Rows PySem.HandSPX
/-! ### the text of the maker -/
def eA (fld : Str) (p1 p2 : Pos) : Arguments :=
  { posonlyargs := [], args := [⟨"self", none, p1⟩, ⟨fld, none, p2⟩], vararg := none, kwonlyargs := [], kw_defaults := [], kwarg := none, defaults := [] }
def eB (fld : Str) (parts : List Expr) (mp : Pos) (q1 q2 q3 q4 q5 q6 q7 q8 q9 : Pos) : List Stmt :=
  [.Expr (.Call (.Attribute (.Call (.Name "super" q1) [] [] q2) "__init__" q3) [.JoinedStr parts mp] [] q4) q5,
   .Assign [.Attribute (.Name "self" q6) fld q7] (.Name fld q8) q9]
def eS (fld : Str) (ex : List (Str × NameKind)) : Scope :=
  { kind := .function, names := [(PySem.Str.ofString "self", .local), (fld, .local), (PySem.Str.ofString "__class__", .free), (PySem.Str.ofString "super", .globalImplicit)] ++ ex, isGenerator := false, isCoroutine := false, more := [] }
/-- all is kept but the slots of the frames at fs -/
structure KeepF (fs : List Addr) (h h' : Heap) : Prop where
  keep : ∀ b o, b ∉ fs → h.get? b = some o → h'.get? b = some o
  slot : ∀ b o, h.get? b = some o → ∃ sl, h'.get? b = some { o with slots := sl }
theorem KeepF.of {fs : List Addr} {h h' : Heap} (k : ∀ b o, h.get? b = some o → h'.get? b = some o) : KeepF fs h h' := ⟨fun b o _ e => k b o e, fun b o e => ⟨o.slots, k b o e⟩⟩
theorem KeepF.of_un {fs : List Addr} {h h' : Heap} {H' : L2.Hp} (u : L2.Un fs [] (fun _ => none) H' h h') : KeepF fs h h' :=
  ⟨fun b o n e => u.keep b o e rfl n (by simp), fun b o e => u.any e rfl (by simp)⟩
/-- the message comes to some text; what stood is kept -/
def MsgOk (P : Program) (w : World) (K : Frag) (mg : Str → Option Value) (base : Heap) (lv : Nat) (ex : List (Str × NameKind)) (parts : List Expr) (mp : Pos) (fld : Str) (v : Value) : Prop :=
  ∀ (A : Around) (outer : List Env) (E : Value → Shared → Prop) (s : Shared) (env : Env) (m : Str → Option Value) (Q : Value → Shared → Prop),
    env.scope = eS fld ex → env.globals = mainGlobals → env.builtins = builtinsNs → L2.Room lv A → L2.Env0 P w K mg base A outer s (fun _ => none) →
    s.heap.Ns env.locals m → m fld = some v → (∀ u s', s'.os = s.os → AllBare s'.gens → KeepF (L2.frs outer) s.heap s'.heap → Q u s') →
    wpAny (model P w) A (eval (.JoinedStr parts mp) env) Q E s
def SupEq (parts : List Expr) (mp q1 q2 q3 q4 : Pos) : Prop :=
  ∀ env : Env, ∃ pl : Sem Bool, eval (.Call (.Attribute (.Call (.Name "super" q1) [] [] q2) "__init__" q3) [.JoinedStr parts mp] [] q4) env = (do
    let ov ← attributeBase (.Call (.Name "super" q1) [] [] q2) "__init__" env (eval (.Call (.Name "super" q1) [] [] q2) env)
    standAt q3.atName
    let __x ← holding [ov] (getMethod ov "__init__" pl)
    match __x with
    | (f, first) => callWith q4 f first (backTo q4 (starEach [.JoinedStr parts mp] env)) [])
/-- what the written part says of the class at C and of its maker at fI -/
structure ErrTxt (P : Program) (K : Frag) (mg : Str → Option Value) (nm fld : Str) (ex : List (Str × NameKind)) (parts : List Expr) (mp : Pos) (C fI : Addr) : Prop where
  gC : mg nm = some (.ref C)
  noSuper : mg "super" = none
  noTop : (List.lookup (PySem.Str.ofString "super") P.main.scope.names).isSome = false
  cls : ∃ nm q N bs bm sn sub ab col dd k0 k1 k2 k3 k5, K.lookup C = some (excClassObj nm q C N bs bm true sn sub ab col dd k0 k1 k2 k3 k5 "ValueError.__new__") ∧ refsVE bm = true
  ini : excInitIn K C veTail "ValueError.__new__" = true
  sup : ks_superIn K C C "__init__" = some (some (.builtin "ValueError.__init__"))
  subV : subIn K (.ref C) (.type "ValueError") = some true
  mroS : mroIn K C (.ref C) = some true
  third : nsIn K cStatics "thirdparty.any" = some none
  sa : findIn K (.ref C) "__setattr__" = some (some (.builtin "object.__setattr__"))
  ga : findIn K (.ref C) "__getattribute__" = some (some (.builtin "BaseException.__getattribute__"))
  gg : findIn K (.ref C) "__getattr__" = some none
  noN : findIn K (.ref C) fld = some none
  iC : findIn K (.ref C) "__init__" = some (some (.ref fI))
  tC : typeIn K (.ref fI) = some (.type "function")
  kC : keepIn K (.ref C) = true
  exC : subIn K (.ref C) (.type "BaseException") = some true
  tyC : typeIn K (.ref C) = some (.type "type")
  hdC : hasDictIn K C = true
  te : exmOne K (.ref C) (.ref C) = some true
  fn : ∃ (oc : Value) (od : Option Addr) (doc pm : Value) (an : Option Addr) (ct : Value) (osl : Array (Option Value)) (qual : Str) (cda cc : Addr)
      (ccl : Value) (cdd : Option Addr) (ccs : Array (Option Value)) (vs : Array Value) (tq tf : Tok) (file : Str) (cl : Value) (cld : Option Addr) (csl : Array (Option Value))
      (p1 p2 q1 q2 q3 q4 q5 q6 q7 q8 q9 : Pos), SupEq parts mp q1 q2 q3 q4 ∧
    K.lookup fI = some ⟨oc, od, .func (ksFn "__init__" qual (eA fld p1 p2) (eB fld parts mp q1 q2 q3 q4 q5 q6 q7 q8 q9) (eS fld ex) .none .none doc pm an (.ref cda) ct cc), osl⟩ ∧
    K.lookup cda = some ⟨ccl, cdd, .fields vs, ccs⟩ ∧ vs[1]? = some (.str qual tq) ∧ vs[2]? = some (.str file tf) ∧ (P.main.file == file) = true ∧
    K.lookup cc = some ⟨cl, cld, .cell (some (.ref C)), csl⟩
/-- the heap without the object at x -/
def without (h : Heap) (x : Addr) : Heap := { h with objs := h.objs.setIfInBounds x { cls := .none, data := .freed } }
theorem without_size (h : Heap) (x : Addr) : (without h x).objs.size = h.objs.size := by simp [without]
theorem without_at (h : Heap) (x : Addr) : (without h x).get? x = none := by
  unfold without Heap.get?
  by_cases e : x < h.objs.size
  · simp [Array.getElem?_setIfInBounds, e]
  · simp [Array.getElem?_setIfInBounds, e]
theorem without_ne (h : Heap) (x b : Addr) (hb : b ≠ x) : (without h x).get? b = h.get? b := by
  unfold without Heap.get?
  simp [Array.getElem?_setIfInBounds, Ne.symm hb]
/-- the heap below L without the object at x -/
def cutH (h : Heap) (L x : Addr) : Heap := { h with objs := (h.objs.extract 0 L).setIfInBounds x { cls := .none, data := .freed } }
theorem cut_size (h : Heap) (L x : Addr) : (cutH h L x).objs.size ≤ L := by simp [cutH]; omega
theorem cut_at (h : Heap) (L x : Addr) : (cutH h L x).get? x = none := by
  unfold cutH Heap.get?
  by_cases e : x < (h.objs.extract 0 L).size
  · rw [Array.getElem?_setIfInBounds_self_of_lt e]
  · have z : ((h.objs.extract 0 L).setIfInBounds x { cls := .none, data := .freed })[x]? = none := by
      rw [Array.getElem?_eq_none_iff]; simp at e ⊢; omega
    rw [z]
theorem cut_big (h : Heap) (L x b : Addr) (hb : L ≤ b) : (cutH h L x).get? b = none := Heap.get?_none_of_le (Nat.le_trans (cut_size h L x) hb)
theorem cut_lt (h : Heap) (L x b : Nat) (hb : b < L) (hx : b ≠ x) : (cutH h L x).get? b = h.get? b := by
  unfold cutH Heap.get?
  show (match ((h.objs.extract 0 L).setIfInBounds x { cls := .none, data := .freed })[b]? with | some ⟨_, _, .freed, _⟩ => none | o => o) = _
  rw [Array.getElem?_setIfInBounds_ne (Ne.symm hx)]
  have z : (h.objs.extract 0 L)[b]? = h.objs[b]? := by
    rw [Array.getElem?_extract]
    by_cases q : b < h.objs.size
    · rw [if_pos (by omega)]; simp
    · rw [if_neg (by omega)]
      exact (Array.getElem?_eq_none_iff.mpr (by omega)).symm
  rw [z]
  rfl
/-- what the maker leaves of a fresh exception at x; fs: the callers' frames -/
structure InitEnd (fs : List Addr) (fld : Str) (h h' : Heap) (x C dx : Addr) (v : Value) : Prop where
  keep : ∀ b o, b ≠ x → b ∉ fs → h.get? b = some o → h'.get? b = some o
  slot : ∀ b o, b ≠ x → h.get? b = some o → ∃ sl, h'.get? b = some { o with slots := sl }
  obj : ∃ t1 : Addr, h'.get? x = some { cls := .ref C, dict := some dx, data := .fields #[.ref t1, .none, .none, .none, .bool false, .none] }
  dbig : h.objs.size ≤ dx
  dne : dx ≠ x
  ns : h'.Ns1 dx (fun y => if y = fld then some v else none)
/-- a made error -/
structure OwnMade (fs : List Addr) (fld : Str) (h h' : Heap) (e C d : Addr) (v : Value) : Prop where
  keep : KeepF fs h h'
  new : h.objs.size ≤ e
  obj : ∃ oe vs, h'.get? e = some oe ∧ oe.cls = .ref C ∧ oe.dict = some d ∧ oe.data = .fields vs ∧ vs[1]? = some .none
  dbig : h.objs.size ≤ d
  dne : d ≠ e
  ns : h'.Ns1 d (fun y => if y = fld then some v else none)
theorem ld1 {M : Model} {A : Around} {E : Value → Shared → Prop} {s : Shared} {env : Env} {m : Str → Option Value} {x : Str} {pos : Pos} {v : Value} {Q : Value → Shared → Prop}
    (hn : s.heap.Ns env.locals m) (hv : m x = some v) (h : Q v s) (hk : env.scope.kind = .function) (hl : env.kindOf x = some .local) (hd : (x == ("__debug__" : Str)) = false) :
    wpAny M A (eval (.Name x pos) env) Q E s := wpAny_Name (wpAny_loadName_local hk hl hn hv h) hd
/-- the facts of the field's name -/
structure FldOk (fld : Str) (ex : List (Str × NameKind)) (parts : List Expr) (mp : Pos) : Prop where
  lkF : List.lookup fld (eS fld ex).names = some .local
  lkS : List.lookup ("self" : Str) (eS fld ex).names = some .local
  lkC : List.lookup ("__class__" : Str) (eS fld ex).names = some .free
  lkU : List.lookup ("super" : Str) (eS fld ex).names = some .globalImplicit
  dbg : (fld == ("__debug__" : Str)) = false
  noc : ∀ y ∈ (eS fld ex).names, y.2 ≠ .cell
  bf : ∀ x v : Value, List.lookup fld [(("self" : Str), x), (fld, v)].reverse = some v
  bs : ∀ x v : Value, List.lookup ("self" : Str) [(("self" : Str), x), (fld, v)].reverse = some x
  star : ∀ env : Env, starEach [.JoinedStr parts mp] env = (false, eval (.JoinedStr parts mp) env) :: starEach [] env
  bnd : ∀ (s : Shared) (x v : Value) (q : Str) (p1 p2 : Pos) (b : List Stmt) (doc pm cd ct : Value) (an : Option Addr) (cc : Addr),
    BindsTo s (ksFn "__init__" q (eA fld p1 p2) b (eS fld ex) .none .none doc pm an cd ct cc) ⟨[x, v], []⟩ [(("self" : Str), x), (fld, v)]
theorem env0_none {P : Program} {w : World} {K : Frag} {mg : Str → Option Value} {base : Heap} {A : Around} {outer : List Env} {s : Shared} {H : L2.Hp} (e : L2.Env0 P w K mg base A outer s H) :
    L2.Env0 P w K mg base A outer s (fun _ => none) :=
  ⟨e.frames, e.mod, fun b o q => ⟨(e.bs b o q).1, rfl⟩, e.bsz, e.funs, fun _ _ => rfl, fun a o q => (by cases q), e.bare⟩
section
variable {prog : Program} {w : World} {A : Around} {R : Result → Shared → Prop} {s : Shared} {K : Frag} {mg : Str → Option Value} {base : Heap} {lv : Nat} {outer : List Env} {nm fld : Str} {ex : List (Str × NameKind)} {parts : List Expr} {mp : Pos} {C fI : Addr}
theorem err_init (T : ErrTxt prog K mg nm fld ex parts mp C fI) (G : FldOk fld ex parts mp) {x t0 : Addr} {v : Value} (M : MsgOk prog w K mg base lv ex parts mp fld v)
    (e0 : L2.Env0 prog w K mg base A outer s (fun _ => none)) (hx : s.heap.get? x = some (excO C t0)) (hnx : K.lookup x = none) (hbx : base.get? x = none) (hr : L2.Room (lv + 1) A)
    (hq : ∀ s' dx, s'.os = s.os → AllBare s'.gens → InitEnd (L2.frs outer) fld s.heap s'.heap x C dx v → R (.ok (.ret .none)) s') :
    codeAny (model prog w) A (.call (.ref fI) ⟨[.ref x, v], []⟩) R s := by
  have X : K.In s.heap := e0.mod.kin.keeps fun b o e => (e0.bs b o e).1
  have hlim : s.heap.NoLimit := e0.mod.nolimit.keeps fun b o e => (e0.bs b o e).1
  have hg : s.heap.Ns mainGlobals mg := e0.mod.glob.keeps fun b o e => (e0.bs b o e).1
  obtain ⟨mb, hb0, hmb0⟩ := e0.mod.blt
  have hb : s.heap.Ns builtinsNs mb := hb0.keeps fun b o e => (e0.bs b o e).1
  have hmb : mb "super" = some (.type "super") := hmb0 _ (by decide)
  obtain ⟨oc, od, doc, pm, an, ct, osl, qual, cda, cc, ccl, cdd, ccs, vs, tq, tf, file, cl, cld, csl, p1, p2, q1, q2, q3, q4, q5, q6, q7, q8, q9, hev, ho, hcd, hvq, hvf, hfile, hcell⟩ := T.fn
  obtain ⟨nm, q, N, bs, bm, sn, sub, ab, col, dd, k0, k1, k2, k3, k5, hC, hbm⟩ := T.cls
  have hcl : clsIn K C = some { name := nm, bases := bs, mro := .ref C :: bm, ns := N, qualname := q, hasDict := true, slotNames := sn, subclasses := sub, abstract := ab, collection := col, hasDel := false } := by unfold clsIn; rw [hC] <;> rfl
  refine ks_codeAny_call_defAt (binds := [("self", .ref x), (fld, v)]) hr.depth (X _ _ ho) rfl hlim ⟨cda, _, vs, tq, rfl, X _ _ hcd, rfl, hvq⟩ rfl (G.bnd _ _ _ _ _ _ _ _ _ _ _ _ _) G.noc ?_ ?_ rfl rfl rfl
  · intro y hy
    simp only [List.mem_cons, List.not_mem_nil, or_false] at hy
    rcases hy with rfl | rfl
    · exact G.lkS
    · exact G.lkF
  intro h₁ hn k
  have X₁ : K.In h₁ := X.keeps k
  have hx₁ := k _ _ hx
  have hxL : x < s.heap.objs.size := Heap.lt_size hx
  have X₀ : K.In (without s.heap x) := fun a o e => by
    have ne : a ≠ x := fun z => by rw [z, hnx] at e; cases e
    rw [without_ne _ _ _ ne]; exact X a o e
  obtain ⟨env, henv⟩ : ∃ env, env = callEnv (ksFn "__init__" qual (eA fld p1 p2) (eB fld parts mp q1 q2 q3 q4 q5 q6 q7 q8 q9) (eS fld ex) .none .none doc pm an (.ref cda) ct cc) s.heap.objs.size fI := ⟨_, rfl⟩
  obtain ⟨pl, hpl⟩ := hev (callEnv (ksFn "__init__" qual (eA fld p1 p2) (eB fld parts mp q1 q2 q3 q4 q5 q6 q7 q8 q9) (eS fld ex) .none .none doc pm an (.ref cda) ct cc) s.heap.objs.size fI)
  refine ks_wpAt_execs_cons (ks_wpAt_Expr_any (ks_wpAt_MethodCall (he := hpl) (ks_wpAt_super_base G.lkU G.lkC (by decide) (f := fI) rfl (k _ _ (X _ _ ho)) rfl rfl rfl (k _ _ (X _ _ hcd)) rfl hvf hfile T.noTop ?_)))
  refine ks_loadName_global rfl G.lkU (loadGlobal_builtin (hg.keeps k) T.noSuper (hb.keeps k) hmb ⟨rfl, ?_⟩)
  refine wpAny_loadName_free rfl G.lkC (c := cc) (v := .ref C) rfl ⟨_, k _ _ (X _ _ hcell), rfl⟩ ?_
  refine wpAny_loadName_local rfl G.lkS hn (G.bs _ _) ?_
  refine ks_wpAny_isType_cls (k _ _ (X _ _ hC)) rfl ⟨rfl, ?_⟩
  refine ks_wpAny_call_super (k _ _ (X _ _ hC)) rfl hx₁ rfl (fun c e => by cases e) (looks_mroIn X₁ T.mroS) fun h₂ hso k₂ => ?_
  have zL : s.heap.objs.size < h₁.objs.size := hn.lt
  have F2 : Fr (without s.heap x) s.heap.objs.size h₂ (fun y => List.lookup y [(("self" : Str), Value.ref x), (fld, v)].reverse) :=
    ⟨hn.keeps k₂, fun b o e => by
      by_cases hb : b = x
      · rw [hb, without_at] at e; cases e
      · rw [without_ne _ _ _ hb] at e; exact k₂ _ _ (k _ _ e), by rw [without_size]; exact Nat.le_refl _⟩
  have N2 : News (without s.heap x) s.heap.objs.size h₂ [(h₁.objs.size, ks_superObj C x C), (x, excObj C t0 none .none)] := by
    intro p hp
    simp only [List.mem_cons, List.not_mem_nil, or_false] at hp
    rcases hp with rfl | rfl
    · refine ⟨hso, Nat.ne_of_gt zL, ?_⟩
      rw [without_ne _ _ _ (Nat.ne_of_gt (Nat.lt_trans hxL zL))]
      cases e : s.heap.get? h₁.objs.size with
      | none => rfl
      | some o => exact absurd (Heap.lt_size e) (Nat.not_lt.mpr (Nat.le_of_lt zL))
    · exact ⟨k₂ _ _ hx₁, Nat.ne_of_lt hxL, without_at _ _⟩
  refine kxs_method kxs_ValueError F2 X₀ N2 List.mem_cons_self (.of_exc0 N2 (List.mem_cons_of_mem _ List.mem_cons_self)) T.third T.sup T.subV (by decide) fun u h₃ F3 N3 lt3 => ?_
  refine kxs_callWith1 N3 List.mem_cons_self (spliced_more ?_ (G.star _)) (G.star _) rfl
  rw [← henv]
  have k3 : ∀ b o, b ≠ x → s.heap.get? b = some o → h₃.get? b = some o := fun b o hb e => F3.keep b o (by rw [without_ne _ _ _ hb]; exact e)
  have kb : ∀ b o, base.get? b = some o → h₃.get? b = some o := fun b o e => k3 b o (fun z => by rw [z, hbx] at e; cases e) (e0.bs b o e).1
  have fne : ∀ b ∈ L2.frs outer, b ≠ x := fun b hb z => by
    obtain ⟨_, o, ho', hf⟩ := e0.funs.mem (b := b) hb
    rw [z, hx] at ho'; cases ho'
    exact hf _ rfl
  have funs3 : h₃.FunFrames base outer := e0.funs.of_keeps fun b o e hf => by
    refine ⟨o, k3 b o (fun z => ?_) e, rfl⟩
    rw [z, hx] at e; cases e
    exact hf _ rfl
  have hL3 : base.get? s.heap.objs.size = none := Heap.get?_none_of_le e0.bsz
  have efr : env.frame = some s.heap.objs.size := by rw [henv] <;> rfl
  have elo : env.locals = s.heap.objs.size := by rw [henv] <;> rfl
  have ens : h₃.Ns env.locals (fun y => List.lookup y [(("self" : Str), Value.ref x), (fld, v)].reverse) := by rw [elo]; exact F3.ns
  have e3 : ∀ tk, L2.Env0 prog w K mg base (A.deeper env) (env :: outer) { s with heap := h₃, toks := tk } (fun _ => none) := fun tk =>
    ⟨Around.frames_deeper e0.frames, e0.mod, fun b o e => ⟨kb b o e, rfl⟩, Nat.le_trans e0.bsz (Nat.le_of_lt F3.ns.lt), .cons (by rw [henv]; intro z; cases z) efr (by rw [← elo]; exact ens) hL3 funs3, fun _ _ => rfl, fun a o q => (by cases q), e0.bare⟩
  refine M (A.deeper env) (env :: outer) _ _ env _ _ (by rw [henv] <;> rfl) (by rw [henv] <;> rfl) (by rw [henv] <;> rfl) (hr.deeper env) (e3 _) ens (G.bf _ _) fun um s4 os4 bare4 K4 => spliced_none ?_
  have efs : L2.frs (env :: outer) = s.heap.objs.size :: L2.frs outer := by unfold L2.frs; rw [List.filterMap_cons, efr]
  rw [efs] at K4
  obtain ⟨h4, g4, d4, t4, o4⟩ := s4
  obtain rfl : o4 = s.os := os4
  -- what stands beside the frames
  have nf : ∀ p ∈ (u, kxs_mw "ValueError.__init__" x) :: [(h₁.objs.size, ks_superObj C x C), (x, excObj C t0 none .none)], p.1 ∉ s.heap.objs.size :: L2.frs outer := by
    intro p hp z
    rcases List.mem_cons.mp z with z | z
    · exact (N3 p hp).2.1 z
    · obtain ⟨_, o, ho', hf⟩ := e0.funs.mem (b := p.1) z
      have lt := Heap.lt_size ho'
      simp only [List.mem_cons, List.not_mem_nil, or_false] at hp
      rcases hp with rfl | rfl | rfl
      · exact absurd (Nat.lt_trans (Nat.lt_trans lt zL) (lt3 _ List.mem_cons_self)) (Nat.lt_irrefl _)
      · exact absurd (Nat.lt_trans lt zL) (Nat.lt_irrefl _)
      · exact fne _ z rfl
  have F4 : Fr (cutH h4 s.heap.objs.size x) s.heap.objs.size h4 (fun y => List.lookup y [(("self" : Str), Value.ref x), (fld, v)].reverse) := by
    refine ⟨?_, fun b o e => ?_, cut_size _ _ _⟩
    · obtain ⟨o', es', ep', ho', r'⟩ := F3.ns
      obtain ⟨sl, z⟩ := K4.slot _ _ ho'
      exact ⟨_, es', ep', z, r'⟩
    · by_cases hb : b = x
      · rw [hb, cut_at] at e; cases e
      · by_cases hl : b < s.heap.objs.size
        · rw [cut_lt _ _ _ _ hl hb] at e; exact e
        · rw [cut_big _ _ _ _ (Nat.le_of_not_lt hl)] at e; cases e
  have N4 : News (cutH h4 s.heap.objs.size x) s.heap.objs.size h4 ((u, kxs_mw "ValueError.__init__" x) :: [(h₁.objs.size, ks_superObj C x C), (x, excObj C t0 none .none)]) := by
    intro p hp
    refine ⟨K4.keep _ _ (nf p hp) (N3 p hp).1, (N3 p hp).2.1, ?_⟩
    simp only [List.mem_cons, List.not_mem_nil, or_false] at hp
    rcases hp with rfl | rfl | rfl
    · exact cut_big _ _ _ _ (Nat.le_of_lt (Nat.lt_trans zL (lt3 _ List.mem_cons_self)))
    · exact cut_big _ _ _ _ (Nat.le_of_lt zL)
    · exact cut_at _ _ _
  have old4 : ∀ b o, b ≠ x → b ∉ L2.frs outer → s.heap.get? b = some o → h4.get? b = some o := fun b o hb hf e =>
    K4.keep b o (fun z => (List.mem_cons.mp z).elim (fun z => absurd (Heap.lt_size e) (by rw [z]; exact Nat.lt_irrefl _)) hf) (k3 b o hb e)
  have base4 : ∀ b o, base.get? b = some o → b ≠ x ∧ b < s.heap.objs.size ∧ h4.get? b = some o := fun b o e => by
    have hb : b ≠ x := fun z => by rw [z, hbx] at e; cases e
    have e' := (e0.bs b o e).1
    exact ⟨hb, Heap.lt_size e', old4 b o hb (fun z => by have := (e0.funs.mem (b := b) z).1; rw [e] at this; cases this) e'⟩
  have X4 : K.In (cutH h4 s.heap.objs.size x) := fun a o e => by
    obtain ⟨p, q, r⟩ := base4 a o (e0.mod.kin a o e)
    rw [cut_lt _ _ _ _ q p]; exact r
  refine ⟨kxs_at N4 List.mem_cons_self, ?_⟩
  refine kxs_call (bmB := veTail) (newId := "ValueError.__new__") (dv := none) (c2 := .none) (t := t0) F4 X4 N4 F.excBase_ValueError T.ini List.mem_cons_self (.tail ?_ (.tail ?_ (.head ?_))) ?_ fun t' h₅ F5 N5 lt5 => ?_
  · exact Nat.ne_of_gt (lt3 _ (List.mem_cons_of_mem _ List.mem_cons_self))
  · exact Nat.ne_of_gt (Nat.lt_trans hxL zL)
  · intro p hp; cases hp
  · rw [sizeLine_eq]; exact (by decide : 1 ≤ 16777216)
  rw [henv] at *
  refine wpAt_of_wpAny ?_
  have hx5 : h₅.get? x = some (excO C t') := (N5 (x, excObj C t' none .none) (by simp)).1
  have c5 : ∀ b o, b ≠ x → b < s.heap.objs.size → h4.get? b = some o → h₅.get? b = some o := fun b o hb hl e => F5.keep b o (by rw [cut_lt _ _ _ _ hl hb]; exact e)
  have k5 : ∀ b o, b ≠ x → b ∉ L2.frs outer → s.heap.get? b = some o → h₅.get? b = some o := fun b o hb hf e => c5 b o hb (Heap.lt_size e) (old4 b o hb hf e)
  have s5 : ∀ b o, b ≠ x → s.heap.get? b = some o → ∃ sl, h₅.get? b = some { o with slots := sl } := fun b o hb e => by
    obtain ⟨sl, z⟩ := K4.slot b o (k3 b o hb e)
    exact ⟨sl, c5 b _ hb (Heap.lt_size e) z⟩
  have X5 : K.In h₅ := fun a o e => by
    obtain ⟨p, q, r⟩ := base4 a o (e0.mod.kin a o e)
    exact c5 a o p q r
  refine wpAny_execs_cons (plainObj_wpAny_Assign_Attribute ?_)
  refine ld1 (v := v) F5.ns (G.bf _ _) (ld1 (v := .ref x) F5.ns (G.bs _ _) ?_ rfl G.lkS (by decide)) rfl G.lkF G.dbg
  refine set_plain X5 (ox := excO C t') (od := none) ⟨hx5, rfl, rfl, trivial⟩ T.sa ?_
  refine exc_osa X5 hx5 hcl (show refsVE (.ref C :: bm) = true from hbm) rfl T.noN (fun h₆ tk₆ dx k₆ dn dne hx₆ hn₆ => ?_)
  exact wpAny_execs_nil (hq _ dx rfl bare4 ⟨fun b o hb hf e => k₆ b o hb (k5 b o hb hf e), fun b o hb e => let ⟨sl, z⟩ := s5 b o hb e; ⟨sl, k₆ b _ hb z⟩, ⟨t', hx₆⟩, Nat.le_of_lt (Nat.lt_of_lt_of_le F5.ns.lt dn), dne, hn₆⟩)
theorem err_made (T : ErrTxt prog K mg nm fld ex parts mp C fI) (G : FldOk fld ex parts mp) {v : Value} (M : MsgOk prog w K mg base lv ex parts mp fld v)
    (e0 : L2.Env0 prog w K mg base A outer s (fun _ => none)) (hr : L2.Room (lv + 2) A)
    (hq : ∀ s' e d, s'.os = s.os → AllBare s'.gens → OwnMade (L2.frs outer) fld s.heap s'.heap e C d v → R (.ok (.ret (.ref e))) s') :
    codeAny (model prog w) A (.call (.ref C) ⟨[v], []⟩) R s := by
  obtain ⟨nm, q, N, bs, bm, sn, sub, ab, col, dd, k0, k1, k2, k3, k5, hC, hbm⟩ := T.cls
  obtain ⟨hp, g, dr, tk, os⟩ := s
  have X : K.In hp := e0.mod.kin.keeps fun b o e => (e0.bs b o e).1
  have k : ∀ b o, hp.get? b = some o → ((hp.push (kdv_tup [v])).push (excO C hp.objs.size)).get? b = some o := fun b o e => Heap.get?_push_of_some _ (Heap.get?_push_of_some _ e)
  have hget : ((hp.push (kdv_tup [v])).push (excO C hp.objs.size)).get? (hp.objs.size + 1) = some (excO C hp.objs.size) := by heap_get
  have hnx : K.lookup (hp.objs.size + 1) = none := by
    cases e : K.lookup (hp.objs.size + 1) with
    | none => rfl
    | some o =>
      have z : hp.get? (hp.objs.size + 1) = some o := X _ _ e
      exact absurd (Nat.lt_of_succ_lt (Heap.lt_size z)) (Nat.lt_irrefl _)
  have hbx : base.get? (hp.objs.size + 1) = none := Heap.get?_none_of_le (Nat.le_trans e0.bsz (Nat.le_succ _))
  have sz : ((hp.push (kdv_tup [v])).push (excO C hp.objs.size)).objs.size = hp.objs.size + 1 + 1 := by
    first
      | rfl
      | simp [Heap.size_push]
  refine call_own F.excBase_ValueError (fun X => refsVE_contains X bm hbm) (X _ _ hC) (looks_findIn X T.iC) (fun self => bind_fn X self T.tC) (by rw [sizeLine_eq]; exact (by decide : 1 ≤ 16777216)) ?_
  have e1 := e0.make C [v] []
  have e2 : L2.Env0 prog w K mg base (A.under (.builtin "type.__call__" ⟨.ref C :: [v], []⟩)) outer ⟨(hp.push (kdv_tup [v])).push (excO C hp.objs.size), g, dr, tk, os⟩ (fun _ => none) :=
    ⟨e1.frames, e1.mod, fun b o e => ⟨k b o (e1.bs b o e).1, rfl⟩, by show base.objs.size ≤ ((hp.push (kdv_tup [v])).push (excO C hp.objs.size)).objs.size; rw [sz]; exact Nat.le_trans e1.bsz (Nat.le_trans (Nat.le_succ _) (Nat.le_succ _)),
      e1.funs.of_keeps fun b o e _ => ⟨o, k b o e, rfl⟩, fun _ _ => rfl, fun a o q => (by cases q), e1.bare⟩
  refine err_init (s := ⟨(hp.push (kdv_tup [v])).push (excO C hp.objs.size), g, dr, tk, os⟩) T G M e2 hget hnx hbx (hr.make C [v] []) fun s' dx os' bare' ⟨k', s', ⟨t1, hx⟩, dn, dne, hns⟩ => ?_
  have z : hp.objs.size + 1 + 1 ≤ dx := by rw [← sz]; exact dn
  refine ⟨rfl, hq _ (hp.objs.size + 1) dx os' bare' ⟨⟨fun b o hf e => k' b o (Nat.ne_of_lt (Nat.lt_succ_of_lt (Heap.lt_size e))) hf (k b o e), fun b o e => s' b o (Nat.ne_of_lt (Nat.lt_succ_of_lt (Heap.lt_size e))) (k b o e)⟩, Nat.le_succ _, ⟨_, _, hx, rfl, rfl, rfl, rfl⟩, Nat.le_trans (Nat.le_trans (Nat.le_succ _) (Nat.le_succ _)) z, dne, hns⟩⟩
end
end Errs
end PySem

set_option Elab.async false
set_option linter.all false
set_option maxRecDepth 100000
set_option maxHeartbeats 4000000
namespace L2
open PySem PySem.Spec PyProof.Rows
theorem relO_fld {v : V} {v' : Value} (fld : Str) (r : RelV v v') (f : Str) : RelO (List.lookup f [(fld, v)]) (if f = fld then some v' else none) := by
  by_cases hw : f = fld
  · subst hw
    rw [if_pos rfl]
    have q : List.lookup f [(f, v)] = some v := by simp [List.lookup]
    rw [q]
    exact r
  · rw [if_neg hw]
    have qw : (f == fld) = false := by simpa using hw
    have q2 : List.lookup f [(fld, v)] = none := by simp [List.lookup, qw]
    rw [q2]
    trivial
/-- the message of this value is written, whatever stands for it -/
def MsgV (X : Cx) (lv : Nat) (ex : List (Str × NameKind)) (parts : List Expr) (mp : Pos) (fld : Str) (v : V) : Prop := ∀ u, RelV v u → PySem.Errs.MsgOk X.prog X.w X.K X.mg X.base lv ex parts mp fld u
section
variable {X : Cx} {nm fld : Str} {ex : List (Str × NameKind)} {parts : List Expr} {mp : Pos} {C fI : Addr} {lv : Nat}
/-- NAME(e) -/
def tMkErr (Mv : V → Prop) (fld : Str) (C : Addr) (ta : TA) : St → Hp → XK → Prop := fun σ H Q => ta σ H fun vs H1 => ∃ v, vs = [v] ∧ Mv v ∧ ∀ d, H1 d = none → Q (.ref C) (some d) (upd H1 d (.xd [(fld, v)]))
theorem pmk_err {a : Expr} {ta : TA} {p pos : Pos} {k : Nat} (T : PySem.Errs.ErrTxt X.prog X.K X.mg nm fld ex parts mp C fI) (G : PySem.Errs.FldOk fld ex parts mp) (hr : Room k X.A) (ha : PA X [a] ta) (hlv : lv + 2 ≤ k := by decide) (hg : Gl X nm := by rfl)
    (hdb : (nm == PySem.Str.ofString "__debug__") = false := by decide)
    (he : starEach (a :: []) X.env = (false, eval a X.env) :: starEach [] X.env := by rfl) (hpl : (backTo pos (starEach [] X.env)).any (·.1) = false := by rfl) :
    PMk X (.Call (.Name nm p) [a] [] pos) (tMkErr (MsgV X lv ex parts mp fld) fld C ta) := by
  intro pins s σ H Q I h
  refine wpAny_Call_Name_kw (ld_glob I hg T.gC ?_ hdb)
  refine PySem.W.callWith_K (h₀ := X.base) I.ok.mod.kin T.kC (thn (ha.run pos pins s σ H _ I h) fun us s1 hh => ?_) he hpl
  obtain ⟨vs, H1, I1, r1, v, ev, mv, q1⟩ := hh
  subst ev
  refine ⟨I1.kIn, ?_⟩
  cases r1 with
  | cons rv rn =>
    rename_i v' us'
    cases rn
    show wpAny _ _ (call (.ref C) [v']) _ _ _
    have e0 := PySem.Errs.env0_none I1.env0
    refine wpAny_call (PySem.Errs.err_made T G (mv v' rv) e0 (hr.mono hlv) fun s' e d os' bare' M => ?_)
    obtain ⟨hp, g, dr, tk, os⟩ := s1
    obtain ⟨h', g', dr', tk', os2⟩ := s'
    obtain rfl : os2 = os := os'
    show MkP X pins σ Q (.ref e) ⟨h', g', dr', tk', os2⟩
    obtain ⟨oe, fv, hoe, hc, hd, hdat, h1⟩ := M.obj
    have hns := M.ns
    have hnew : hp.objs.size ≤ e := M.new
    have hdbig : hp.objs.size ≤ d := M.dbig
    have fe : H1 e = none := I1.hok.fresh hnew
    have fd : H1 d = none := I1.hok.fresh hdbig
    obtain ⟨G', g1, g2⟩ := restrict h' fun b => decide (b ≠ e)
    have gk : ∀ b, b ≠ e → G'.get? b = h'.get? b := fun b hb => g1 b (decide_eq_true hb)
    have ge : G'.get? e = none := g2 e (by simp)
    have ne : ∀ b o, hp.get? b = some o → b ≠ e := fun b o q => Nat.ne_of_lt (Nat.lt_of_lt_of_le (Heap.lt_size q) hnew)
    have nd : ∀ b o, hp.get? b = some o → b ≠ d := fun b o q => Nat.ne_of_lt (Nat.lt_of_lt_of_le (Heap.lt_size q) hdbig)
    have k1 : ∀ b o, b ∉ frs X.stack → hp.get? b = some o → G'.get? b = some o := fun b o hf q => (gk b (ne b o q)).trans (M.keep.keep b o hf q)
    have k2 : ∀ b o, hp.get? b = some o → ∃ sl, G'.get? b = some { o with slots := sl } := fun b o q => let ⟨sl, z⟩ := M.keep.slot b o q; ⟨sl, (gk b (ne b o q)).trans z⟩
    have ob : ObjOk X.prog X.w (upd H1 d (.xd [(fld, v)])) G' d (.xd [(fld, v)]) :=
      ⟨_, hns.at (fun o q => (gk d M.dne).trans q), fun f => relO_fld fld rv f⟩
    have tne : ∀ b o, H1 b = some o → b ≠ d := fun b o q z => by rw [z, fd] at q; cases q
    have un : Un (frs X.stack) [] H1 (upd H1 d (.xd [(fld, v)])) hp G' :=
      ⟨fun b o q _ hf _ => k1 b o hf q, fun b o q _ _ _ => k2 b o q, fun b o q n _ => by rw [upd_ne (nd b o q)]; exact n, fun b o q _ => let ⟨sl, z⟩ := k2 b o q; ⟨_, z⟩,
        fun b xs q => by rw [upd_ne (tne b _ q)]; exact q, fun b u xs q => by rw [upd_ne (tne b _ q)]; exact q, fun b ps q => ⟨#[], by rw [upd_ne (tne b _ q), q]; simp⟩⟩
    have free := I1.stkFree
    have hok : HOk X.prog X.w (upd H1 d (.xd [(fld, v)])) G' := fun b u q => by
      by_cases hb : b = d
      · subst hb; rw [upd_same] at q; cases q; exact ob
      · rw [upd_ne hb] at q
        refine (I1.hok b u q).stay (fun c o hc z => k1 c o (fun hf => ?_) z) (fun c z => by rw [upd_ne (tne c _ z)]; exact z) fun c xs z => by rw [upd_ne (tne c _ z)]; exact z
        have fc := free c hf
        rcases hc with rfl | hc
        · rw [q] at fc; cases fc
        · rw [hc] at fc; cases fc
    have J : Inv X pins σ (upd H1 d (.xd [(fld, v)])) ⟨G', g', dr', tk', os2⟩ := I1.call (g' := g') (t' := tk') (d' := dr') (ch := []) un hok bare' (fun _ z => nomatch z)
    refine ⟨e, oe, fv, ⟨G', g', dr', tk', os2⟩, _, .ref C, some d, rfl, J, fun b o q => ?_, ge, hoe, ⟨hc, hd⟩, hdat, h1, ?_, rfl, bare', raises_own T.exC T.tyC, q1 d fd⟩
    · by_cases hb : b = e
      · have q' : G'.get? b = some o := q
        rw [hb, ge] at q'; cases q'
      · exact (gk b hb).symm.trans q
    · rw [upd_ne (Ne.symm M.dne)]
      exact fe
/-- raise NAME(e) -/
def tRaiseErr (Mv : V → Prop) (fld : Str) (C : Addr) (W : WX) (ta : TA) : TS := fun _ σ H => tMkErr Mv fld C ta σ H fun cls d H' => W cls d σ H'
theorem ps_raiseErr {a : Expr} {ta : TA} {W : WX} {p pos pos2 : Pos} {k : Nat} (hc : X.calm = true) (T : PySem.Errs.ErrTxt X.prog X.K X.mg nm fld ex parts mp C fI) (G : PySem.Errs.FldOk fld ex parts mp) (hr : Room k X.A) (tk : Takes X W) (ha : PA X [a] ta) (hlv : lv + 2 ≤ k := by decide) (hg : Gl X nm := by rfl)
    (hdb : (nm == PySem.Str.ofString "__debug__") = false := by decide)
    (he : starEach (a :: []) X.env = (false, eval a X.env) :: starEach [] X.env := by rfl) (hpl : (backTo pos (starEach [] X.env)).any (·.1) = false := by rfl) :
    PS X (.Raise (some (.Call (.Name nm p) [a] [] pos)) none pos2) (tRaiseErr (MsgV X lv ex parts mp fld) fld C W ta) := ps_raise hc tk (pmk_err T G hr ha hlv hg hdb he hpl)
/-! ### the messages -/
/-- decimal(e) in a message -/
theorem dec_part {f : Addr} {fd : FuncData} {sp : Sp} {v : V} {u : Value} {p1 p2 p3 : Pos} (F : FnOk X.prog X.w X.K X.mg X.base CX0 lv f fd ["n"] sp) (gf : X.mg "decimal" = some (.ref f)) (kp : PySem.W.keepIn X.K (.ref f) = true) (hb : Binds X.K fd ["n"] [])
    (hsp : ∀ (Q : VK) (E : XK), (∀ z H', z.length ≤ 1000000 → Q (.str z) H') → sp [v] (fun _ => none) Q E) (r : RelV v u)
    {A : Around} {outer : List Env} {E : Value → Shared → Prop} {s : Shared} {env : Env} {m : Str → Option Value} {Q : Value → Shared → Prop}
    (hs : env.scope = PySem.Errs.eS fld [("decimal", .globalImplicit)]) (hgl : env.globals = mainGlobals) (hr : Room lv A) (e0 : Env0 X.prog X.w X.K X.mg X.base A outer s (fun _ => none))
    (hn : s.heap.Ns env.locals m) (hm : m fld = some u) (h1 : List.lookup fld (PySem.Errs.eS fld [("decimal", .globalImplicit)]).names = some .local) (h2 : List.lookup ("decimal" : Str) (PySem.Errs.eS fld [("decimal", .globalImplicit)]).names = some .globalImplicit)
    (hd : (fld == ("__debug__" : Str)) = false) (hst : starEach [.Name fld p2] env = (false, eval (.Name fld p2) env) :: starEach [] env) (hpl : (backTo p3 (starEach [] env)).any (·.1) = false)
    (h : ∀ z tk s', z.length ≤ 1000000 → s'.os = s.os → AllBare s'.gens → PySem.Errs.KeepF (frs outer) s.heap s'.heap → Q (.str z tk) s') :
    wpAny (model X.prog X.w) A (eval (.Call (.Name "decimal" p1) [.Name fld p2] [] p3) env) Q E s := by
  have kin : X.K.In s.heap := e0.mod.kin.keeps fun b o e => (e0.bs b o e).1
  have hkd : env.scope.kind = .function := by rw [hs] <;> rfl
  refine wpAny_Call_Name_kw (Calls.Name_function_global hkd (by show env.scope.names.lookup _ = _; rw [hs]; exact h2) (Calls.loadGlobal_global (by rw [hgl]; exact e0.mod.glob.keeps fun b o e => (e0.bs b o e).1) gf ?_) (by decide))
  refine PySem.W.callWith_K (h₀ := X.base) e0.mod.kin kp (PyProof.Rows.spliced_more ?_ hst) hst hpl
  refine PySem.Errs.ld1 hn hm ?_ hkd (by show env.scope.names.lookup _ = _; rw [hs]; exact h1) hd
  refine PyProof.Rows.spliced_none ⟨kin, ?_⟩
  have b0 := hb s [u] kin rfl
  refine wpAny_call (codeAny_mono (F.run A outer s _ ⟨[u], []⟩ [u] [v] _ (fun _ _ _ => False) hr e0 b0 (.cons r .nil) (hsp (fun x H' => ∃ z, x = .str z ∧ z.length ≤ 1000000) _ fun z H' hz => ⟨z, rfl, hz⟩)) fun res s' got => ?_)
  match res, got with
  | .error e, got => exact False.elim got
  | .ok (.ret y), got =>
    obtain ⟨x, H', os', bare', un, hok, rv, z, rfl, hz⟩ := got
    obtain ⟨tk, rfl⟩ := rv
    exact h z tk s' hz os' bare' (PySem.Errs.KeepF.of_un un)
  | .ok .next, got => cases got
  | .ok .brk, got => cases got
  | .ok .cont, got => cases got
theorem msg_dec2 {f : Addr} {fd : FuncData} {sp : Sp} {v : V} {a : Str} {k1 : Nat} {p1 p2 p3 p4 p5 mp : Pos} (F : FnOk X.prog X.w X.K X.mg X.base CX0 lv f fd ["n"] sp) (gf : X.mg "decimal" = some (.ref f)) (kp : PySem.W.keepIn X.K (.ref f) = true) (hb : Binds X.K fd ["n"] [])
    (hsp : ∀ (Q : VK) (E : XK), (∀ z H', z.length ≤ 1000000 → Q (.str z) H') → sp [v] (fun _ => none) Q E)
    (h1 : List.lookup fld (PySem.Errs.eS fld [("decimal", .globalImplicit)]).names = some .local) (h2 : List.lookup ("decimal" : Str) (PySem.Errs.eS fld [("decimal", .globalImplicit)]).names = some .globalImplicit) (hd : (fld == ("__debug__" : Str)) = false)
    (hst : ∀ env : Env, starEach [.Name fld p2] env = (false, eval (.Name fld p2) env) :: starEach [] env) (hl : a.length ≤ 100) :
    MsgV X lv [("decimal", .globalImplicit)] [.Constant (.str a) k1 p4, .FormattedValue (.Call (.Name "decimal" p1) [.Name fld p2] [] p3) (-1) none p5] mp fld v := by
  intro u r A outer E s env m Q hs hgl hbl hr e0 hn hm hQ
  refine JoinedStr_many (joinParts_cons ?_)
  refine wpAny_Constant_str ?_
  have l0 : Str.empty.length = 0 := rfl
  refine ⟨by rw [sizeLine_eq, Str.length_append]; omega, ?_⟩
  refine joinParts_cons (FormattedValue_plain ?_)
  refine dec_part F gf kp hb hsp r hs hgl hr (e0 := ⟨e0.frames, e0.mod, e0.bs, e0.bsz, e0.funs, e0.frf, e0.hok, e0.bare⟩) hn hm h1 h2 hd (hst _) rfl fun z tk s' hz os' bare' K' => ?_
  refine formatField_str (fun t' tk' => ?_) (by rw [sizeLine_eq]; omega)
  refine ⟨by rw [sizeLine_eq, Str.length_append, Str.length_append]; omega, ?_⟩
  refine joinParts_nilE (joinParts_nil ?_ ?_)
  · exact hQ _ _ os' bare' K'
  · rw [sizeLine_eq, Str.length_append, Str.length_append]; omega
theorem msg_dec3 {f : Addr} {fd : FuncData} {sp : Sp} {v : V} {a b : Str} {k1 k2 : Nat} {p1 p2 p3 p4 p5 p6 mp : Pos} (F : FnOk X.prog X.w X.K X.mg X.base CX0 lv f fd ["n"] sp) (gf : X.mg "decimal" = some (.ref f)) (kp : PySem.W.keepIn X.K (.ref f) = true) (hb : Binds X.K fd ["n"] [])
    (hsp : ∀ (Q : VK) (E : XK), (∀ z H', z.length ≤ 1000000 → Q (.str z) H') → sp [v] (fun _ => none) Q E)
    (h1 : List.lookup fld (PySem.Errs.eS fld [("decimal", .globalImplicit)]).names = some .local) (h2 : List.lookup ("decimal" : Str) (PySem.Errs.eS fld [("decimal", .globalImplicit)]).names = some .globalImplicit) (hd : (fld == ("__debug__" : Str)) = false)
    (hst : ∀ env : Env, starEach [.Name fld p2] env = (false, eval (.Name fld p2) env) :: starEach [] env) (hl : a.length ≤ 100 ∧ b.length ≤ 100) :
    MsgV X lv [("decimal", .globalImplicit)] [.Constant (.str a) k1 p4, .FormattedValue (.Call (.Name "decimal" p1) [.Name fld p2] [] p3) (-1) none p5, .Constant (.str b) k2 p6] mp fld v := by
  intro u r A outer E s env m Q hs hgl hbl hr e0 hn hm hQ
  refine JoinedStr_many (joinParts_cons ?_)
  refine wpAny_Constant_str ?_
  have l0 : Str.empty.length = 0 := rfl
  refine ⟨by rw [sizeLine_eq, Str.length_append]; omega, ?_⟩
  refine joinParts_cons (FormattedValue_plain ?_)
  refine dec_part F gf kp hb hsp r hs hgl hr (e0 := ⟨e0.frames, e0.mod, e0.bs, e0.bsz, e0.funs, e0.frf, e0.hok, e0.bare⟩) hn hm h1 h2 hd (hst _) rfl fun z tk s' hz os' bare' K' => ?_
  refine formatField_str (fun t' tk' => ?_) (by rw [sizeLine_eq]; omega)
  refine ⟨by rw [sizeLine_eq, Str.length_append, Str.length_append]; omega, ?_⟩
  refine joinParts_consE (joinParts_cons ?_)
  refine wpAny_Constant_str ?_
  refine ⟨by rw [sizeLine_eq, Str.length_append, Str.length_append, Str.length_append]; omega, ?_⟩
  refine joinParts_nilE (joinParts_nil ?_ ?_)
  · exact hQ _ _ os' bare' K'
  · rw [sizeLine_eq, Str.length_append, Str.length_append, Str.length_append]; omega
theorem msg_str2 {a : Str} {k1 : Nat} {p1 p2 p3 mp : Pos} {z : Str} (h1 : List.lookup fld (PySem.Errs.eS fld []).names = some .local) (hd : (fld == ("__debug__" : Str)) = false)
    (hl : a.length ≤ 100) (ht : z.length ≤ 10000) :
    MsgV X lv [] [.Constant (.str a) k1 p1, .FormattedValue (.Name fld p2) (-1) none p3] mp fld (.str z) := by
  intro u r
  obtain ⟨tk, rfl⟩ := r
  intro A outer E s env m Q hs hgl hbl hr e0 hn hm hQ
  refine JoinedStr_many (joinParts_cons ?_)
  refine wpAny_Constant_str ?_
  have l0 : Str.empty.length = 0 := rfl
  refine ⟨by rw [sizeLine_eq, Str.length_append]; omega, ?_⟩
  refine joinParts_cons (FormattedValue_plain ?_)
  refine PySem.Errs.ld1 hn hm ?_ (by rw [hs] <;> rfl) (by show env.scope.names.lookup _ = _; rw [hs]; exact h1) hd
  refine formatField_str (fun t' tk' => ?_) (by rw [sizeLine_eq]; omega)
  refine ⟨by rw [sizeLine_eq, Str.length_append, Str.length_append]; omega, ?_⟩
  refine joinParts_nilE (joinParts_nil ?_ ?_)
  · exact hQ _ _ rfl e0.bare (.of fun _ _ e => e)
  · rw [sizeLine_eq, Str.length_append, Str.length_append]; omega
/-! ### isinstance(e, CLASS) of a caught error that keeps values -/
structure ExcD (K : PySem.W.Frag) (D : Addr) : Prop where
  cl : (PySem.W.clsIn K D).isSome = true
  ga : PySem.W.findIn K (.ref D) "__getattribute__" = some (some (.builtin "BaseException.__getattribute__"))
  gg : PySem.W.findIn K (.ref D) "__getattr__" = some none
  ex : PySem.W.subIn K (.ref D) (.type "BaseException") = some true
  cc : PySem.W.findIn K (.ref D) "__class__" = some (some (.builtin "object.__class__"))
  sp : PySem.W.specialIn K (.builtin "object.__class__") "__get__" = some (some (.builtin "getset_descriptor.__get__"))
  tk : PySem.W.takesIn K (.builtin "object.__class__") = some true
  mo : PySem.W.mroIn K D (.type "object") = some true
def rIsD (K : PySem.W.Frag) (D : Addr) (a : Addr) (cls : Value) (d : Option Addr) : List V → Hp → VK → Prop := fun xs H Q =>
  ∃ c cv b dd fl, xs = [.ref a, c] ∧ cls = .ref D ∧ d = some dd ∧ (∀ u, RelV c u → u = cv) ∧ PySem.W.kitOne K (.ref D) cv = some b ∧ H dd = some (.xd fl) ∧ Q (.bl b) H
theorem call_isD {X : Cx} {a D : Addr} {cls : Value} {do_ : Option Addr} {oe : Obj} {pn : List (Addr × Obj)} (C : ExcD X.K D) (hz : Zc cls do_ oe) (hf : ∃ vs, oe.data = .fields vs) :
    CallR (X.suite a ((a, oe) :: pn)) (.builtin "isinstance") (rIsD X.K D a cls do_) := by
  intro pins s σ H xs us Q I r h
  obtain ⟨c, cv, b, d, fl, rfl, rfl, rfl, hcv, e, hd, q⟩ := h
  cases r with
  | cons rx rr =>
    cases rr with
    | cons rt rn =>
      cases rn
      obtain rfl := hcv _ rt
      obtain rfl : _ = Value.ref a := rx
      obtain ⟨ha, _⟩ := I.pin (a, oe) (List.mem_append_left _ List.mem_cons_self)
      obtain ⟨vs, hv⟩ := hf
      have hx : ObjOk X.prog X.w H s.heap d (.xd fl) := I.hok d _ hd
      obtain ⟨mA, hns, hr⟩ := hx
      obtain ⟨od, ho, hl⟩ := lookIn_ns hns
      have J : PySem.W.InstAt s.heap a oe D (some od) := ⟨ha, hz.1, by unfold PySem.W.notCls; rw [hv] <;> rfl, by rw [hz.2]; exact ho⟩
      exact PySem.W.kia_one (PySem.W.kitx_exc C.cl C.ga C.gg C.ex C.cc C.sp C.tk C.mo) I.kIn J e (by intro z; cases z) fun tk => ⟨V.bl b, H, I.tok _, rfl, q⟩
end
end L2
namespace Mine
open PySem
/-- an error of the class at S is what the clause that names S takes -/
theorem exm_own {K : PySem.W.Frag} {S : Addr} (h1 : PySem.W.subIn K (.ref S) (.type "BaseException") = some true) (h2 : PySem.W.isClsIn K S = true) (h3 : PySem.W.typeIn K (.ref S) = some (.type "type")) (h4 : PySem.W.subIn K (.ref S) (.ref S) = some true) :
    PySem.W.exmOne K (.ref S) (.ref S) = some true := by
  have e1 : (PySem.W.subIn K (.ref S) (.type "BaseException") == some true) = true := by rw [h1] <;> rfl
  have e2 : ((PySem.W.clsIn K S).isSome && PySem.W.typeIn K (.ref S) == some (.type "type")) = true := by
    have h2' : (PySem.W.clsIn K S).isSome = true := h2
    rw [h2', h3] <;> rfl
  show (if (PySem.W.subIn K (.ref S) (.type "BaseException") == some true) = true then (if ((PySem.W.clsIn K S).isSome && PySem.W.typeIn K (.ref S) == some (.type "type")) = true then PySem.W.subIn K (.ref S) (.ref S) else none) else none) = some true
  rw [if_pos e1, if_pos e2]
  exact h4
end Mine

set_option Elab.async false
set_option linter.all false
set_option maxRecDepth 100000
namespace Rd
open PySem PySem.Spec PyProof.Rows L2
variable {K : PySem.W.Frag} {σ : L2.St} {H : Hp} {D : Ends} {Q : VK} {ta tb te tc : TE} {t u c : TT} {ts tu : TS} {g : TG} {x y v : V} {vs : List V} {tr : TA} {a b : Option V} {r : L2.St}
theorem seq (h : ts { D with nx := tu D } σ H) : tSeq ts tu D σ H := h
theorem next (h : D.nx σ H) : tNext D σ H := h
theorem brk (h : D.bk σ H) : tBreak D σ H := h
theorem cont (h : D.ct σ H) : tCont D σ H := h
theorem asg (h : te σ H fun x H1 => g x σ H1 D.nx) : tAsg te g D σ H := h
theorem ret (h : te σ H D.rt) : tRet te D σ H := h
theorem retN (h : D.rt .non H) : tRetN D σ H := h
theorem drop (h : te σ H fun _ H1 => D.nx σ H1) : tDrop te D σ H := h
theorem ifs (h : c σ H fun b H1 => if b = true then ts D σ H1 else tu D σ H1) : tIfS c ts tu D σ H := h
theorem ife (h : t σ H fun b H1 => if b = true then ta σ H1 Q else tb σ H1 Q) : tIf t ta tb σ H Q := h
theorem test {Q : Bool → Hp → Prop} (h : te σ H fun x H1 => ∃ k, x = .bl k ∧ Q k H1) : tTest te σ H Q := h
theorem tb_ {Q : Bool → Hp → Prop} (h : te σ H fun x H1 => ∃ k, x = .bl k ∧ Q k H1) : tB te σ H Q := h
theorem bl {b : Bool} {Q : Bool → Hp → Prop} (h : Q b H) : ∃ k, V.bl b = .bl k ∧ Q k H := ⟨b, rfl, h⟩
theorem bl2 {b : Bool} {P : Bool → Prop} (h : P b) : ∃ k, V.bl b = .bl k ∧ P k := ⟨b, rfl, h⟩
theorem and_ {Q : Bool → Hp → Prop} (h : t σ H fun c H1 => if c = true then u σ H1 Q else Q false H1) : tAnd t u σ H Q := h
theorem or_ {Q : Bool → Hp → Prop} (h : t σ H fun c H1 => if c = true then Q true H1 else u σ H1 Q) : tOr t u σ H Q := h
theorem not_ {Q : Bool → Hp → Prop} (h : t σ H fun c H1 => Q (!c) H1) : tNot t σ H Q := h
theorem andV (h : ta σ H fun x H1 => ∃ c, x = .bl c ∧ if c = true then tb σ H1 Q else Q (.bl false) H1) : tAndV ta tb σ H Q := h
theorem orV (h : ta σ H fun x H1 => ∃ c, x = .bl c ∧ if c = true then Q (.bl true) H1 else tb σ H1 Q) : tOrV ta tb σ H Q := h
theorem notV (h : ta σ H fun x H1 => ∃ c, x = .bl c ∧ Q (.bl (!c)) H1) : tNotV ta σ H Q := h
theorem op {r : R2} (h : ta σ H fun x H1 => tb σ H1 fun y H2 => r x y H2 Q) : tOp r ta tb σ H Q := h
theorem un {r : V → Hp → VK → Prop} (h : ta σ H fun x H1 => r x H1 Q) : tUn r ta σ H Q := h
theorem I0 {f : Int → Int → V} {i j : Int} (h : Q (f i j) H) : rI0 f (.int i) (.int j) H Q := ⟨i, j, rfl, rfl, h⟩
theorem I {C : Int → Int → Prop} {f : Int → Int → V} {i j : Int} (c : C i j) (h : Q (f i j) H) : rI C f (.int i) (.int j) H Q := ⟨i, j, rfl, rfl, c, h⟩
theorem U {f : Int → V} {i : Int} (h : Q (f i) H) : rU f (.int i) H Q := ⟨i, rfl, h⟩
theorem ip {f : Int → Int → Int} {i j : Int} (h : Q (.int (f i j)) H) : ipI f (.int i) (.int j) H Q := ⟨i, j, rfl, rfl, h⟩
theorem eq (s : scal x y = true) (h : Q (.bl (decide (x = y))) H) : rEq x y H Q := ⟨s, h⟩
theorem ne (s : scal x y = true) (h : Q (.bl (!decide (x = y))) H) : rNe x y H Q := ⟨s, h⟩
theorem c_ (h : Q v H) : tC v σ H Q := h
theorem nil {Q : List V → Hp → Prop} (h : Q [] H) : tNil σ H Q := h
theorem cons {Q : List V → Hp → Prop} (h : ta σ H fun x H1 => tr σ H1 fun xs H2 => Q (x :: xs) H2) : tCons ta tr σ H Q := h
theorem tup (h : tr σ H fun xs H1 => xs.length ≤ sizeLine ∧ ∀ p, H1 p = none → Q (.ref p) (upd H1 p (.tup xs))) : tTup tr σ H Q := h
theorem lst (h : tr σ H fun xs H1 => xs.length ≤ sizeLine ∧ ∀ p, H1 p = none → Q (.ref p) (upd H1 p (.lst xs))) : tLst tr σ H Q := h
theorem newT {xs : List V} (s : xs.length ≤ sizeLine) (h : ∀ p, H p = none → Q (.ref p) (upd H p (.tup xs))) : xs.length ≤ sizeLine ∧ ∀ p, H p = none → Q (.ref p) (upd H p (.tup xs)) := ⟨s, h⟩
theorem newL {xs : List V} (s : xs.length ≤ sizeLine) (h : ∀ p, H p = none → Q (.ref p) (upd H p (.lst xs))) : xs.length ≤ sizeLine ∧ ∀ p, H p = none → Q (.ref p) (upd H p (.lst xs)) := ⟨s, h⟩
theorem szA {xs : List V} {A : Prop} (s : xs.length ≤ sizeLine) (h : A) : xs.length ≤ sizeLine ∧ A := ⟨s, h⟩
theorem call {sp : Sp} {dvs : List V} {E : XK} (h : tr σ H fun vs H1 => sp (vs ++ dvs) H1 Q E) : tCall sp dvs E tr σ H Q := h
theorem cb {f : List V → Hp → VK → Prop} (h : tr σ H fun vs H1 => f vs H1 Q) : tCB f tr σ H Q := h
theorem bm {T : String} {f : V → List V → Hp → VK → Prop} (h : te σ H fun x H1 => tyV K T x H1 ∧ tr σ H1 fun xs H2 => f x xs H2 Q) : tBM K T f te tr σ H Q := h
theorem bm0 {T : String} {f : V → List V → Hp → VK → Prop} (h : te σ H fun x H1 => tyV K T x H1 ∧ f x [] H1 Q) : tBM0 K T f te σ H Q := h
theorem tyL {p : Addr} {xs : List V} {A : Prop} (s : H p = some (.lst xs)) (h : A) : tyV K "list" (.ref p) H ∧ A := ⟨.inl ⟨rfl, _, SqL.of s⟩, h⟩
theorem tyLq {p : Addr} {xs : List V} {A : Prop} (s : SqL K H p xs) (h : A) : tyV K "list" (.ref p) H ∧ A := ⟨.inl ⟨rfl, _, s⟩, h⟩
theorem tyS {z : Str} {A : Prop} (h : A) : tyV K "str" (.str z) H ∧ A := ⟨rfl, h⟩
theorem app {l : Addr} {xs : List V} (h : H l = some (.lst xs)) (s : xs.length < sizeLine) (q : Q .non (upd H l (.lst (xs ++ [y])))) : rAppend (.ref l) [y] H Q := ⟨l, xs, y, rfl, rfl, h, s, q⟩
theorem sl {f : V → Option Int → Option Int → Hp → VK → Prop} {tl th : TO} (h : te σ H fun x H1 => tl σ H1 fun l H2 => th σ H2 fun u H3 => f x l u H3 Q) : L2.tSl f te tl th σ H Q := h
theorem nopart {Q : Option Int → Hp → Prop} (h : Q none H) : tNoPart σ H Q := h
theorem part {Q : Option Int → Hp → Prop} (h : te σ H fun x H1 => ∃ i, x = .int i ∧ Q (some i) H1) : tPart te σ H Q := h
theorem int1 {i : Int} {P : Int → Prop} (h : P i) : ∃ j, V.int i = .int j ∧ P j := ⟨i, rfl, h⟩
theorem ints1 {i : Int} {P : Int → Prop} (h : P i) : ∃ j, [V.int i] = [.int j] ∧ P j := ⟨i, rfl, h⟩
theorem ints2 {i j : Int} {P : Int → Int → Prop} (h : P i j) : ∃ a b, [V.int i, V.int j] = [.int a, .int b] ∧ P a b := ⟨i, j, rfl, h⟩
theorem ixLq {p : Addr} {xs : List V} {i : Int} (h : SqL K H p xs) (e : atI xs i = some v) (q : Q v H) : rIxL K (.ref p) (.int i) H Q := ⟨p, xs, i, v, rfl, rfl, h, e, q⟩
theorem ixL {p : Addr} {xs : List V} {i : Int} (h : H p = some (.lst xs)) (e : atI xs i = some v) (q : Q v H) : rIxL K (.ref p) (.int i) H Q := ⟨p, xs, i, v, rfl, rfl, SqL.of h, e, q⟩
theorem ixT {p : Addr} {xs : List V} {i : Int} (h : H p = some (.tup xs)) (e : atI xs i = some v) (q : Q v H) : rIxT K (.ref p) (.int i) H Q := ⟨p, xs, i, v, rfl, rfl, SqT.of h, e, q⟩
theorem ixTq {p : Addr} {xs : List V} {i : Int} (h : SqT K H p xs) (e : atI xs i = some v) (q : Q v H) : rIxT K (.ref p) (.int i) H Q := ⟨p, xs, i, v, rfl, rfl, h, e, q⟩
theorem gtup {p : Addr} {xs : List V} {n : Nat} {f : TGs} {Q : L2.St → Hp → Prop} (h : H p = some (.tup xs)) (l : xs.length = n) (q : f xs σ H Q) : gTup K n f (.ref p) σ H Q := ⟨p, xs, rfl, SqT.of h, l, q⟩
theorem gtupq {p : Addr} {xs : List V} {n : Nat} {f : TGs} {Q : L2.St → Hp → Prop} (h : SqT K H p xs) (l : xs.length = n) (q : f xs σ H Q) : gTup K n f (.ref p) σ H Q := ⟨p, xs, rfl, h, l, q⟩
theorem yes {Q : Bool → Hp → Prop} (h : Q true H) : tYes σ H Q := h
theorem gcons {f : TGs} {Q : L2.St → Hp → Prop} (q : g v σ H fun σ' H' => f vs σ' H' Q) : gCons g f (v :: vs) σ H Q := ⟨v, vs, rfl, q⟩
theorem gnil {Q : L2.St → Hp → Prop} (q : Q σ H) : gNil [] σ H Q := ⟨rfl, q⟩
theorem sub {to ti : TE} {f : TSet} {Q : L2.St → Hp → Prop} (h : to σ H fun o H1 => ti σ H1 fun i H2 => f o i v H2 fun H3 => Q σ H3) : gSub to ti f v σ H Q := h
theorem setL {l : Addr} {xs : List V} {j : Nat} {i : Int} {Q : Hp → Prop} (h : H l = some (.lst xs)) (e : ixN xs.length i = some j) (q : Q (upd H l (.lst (xs.set j v)))) : rSetL (.ref l) (.int i) v H Q := ⟨l, xs, i, j, rfl, rfl, h, e, q⟩
theorem isN (h : ta σ H fun x H1 => Q (.bl (decide (x = .non))) H1) : tIsN ta σ H Q := h
theorem rf {α : Type} {a : α} {A : Prop} (h : A) : a = a ∧ A := ⟨rfl, h⟩
theorem sz {n : Nat} (h : n ≤ 100000) : n ≤ sizeLine := Nat.le_trans h (by decide)
theorem szl {n : Nat} (h : n < 100000) : n < sizeLine := Nat.lt_of_lt_of_le h (by decide)
theorem chain {r r' : R2} (h : ta σ H fun x H1 => tb σ H1 fun y H2 => r x y H2 fun z H3 => ∃ k, z = .bl k ∧ if k = true then tc σ H3 fun w H4 => r' y w H4 Q else Q (.bl false) H3) : tChain r r' ta tb tc σ H Q := h

theorem v0 (h : Q v H) : tVar 0 (some v :: r) H Q := ⟨v, rfl, h⟩
theorem n0 {Q : L2.St → Hp → Prop} (h : Q (some v :: r) H) : gName 0 v (a :: r) H Q := h
theorem g0 {ti : TIp} (h : te (some x :: r) H fun y H1 => ti x y H1 fun z H2 => D.nx (some z :: r) H2) : tAug 0 te ti D (some x :: r) H := ⟨x, rfl, h⟩
theorem v1 {a0 : Option V} (h : Q v H) : tVar 1 (a0 :: some v :: r) H Q := ⟨v, rfl, h⟩
theorem n1 {a0 : Option V} {Q : L2.St → Hp → Prop} (h : Q (a0 :: some v :: r) H) : gName 1 v (a0 :: a :: r) H Q := h
theorem g1 {a0 : Option V} {ti : TIp} (h : te (a0 :: some x :: r) H fun y H1 => ti x y H1 fun z H2 => D.nx (a0 :: some z :: r) H2) : tAug 1 te ti D (a0 :: some x :: r) H := ⟨x, rfl, h⟩
theorem v2 {a0 a1 : Option V} (h : Q v H) : tVar 2 (a0 :: a1 :: some v :: r) H Q := ⟨v, rfl, h⟩
theorem n2 {a0 a1 : Option V} {Q : L2.St → Hp → Prop} (h : Q (a0 :: a1 :: some v :: r) H) : gName 2 v (a0 :: a1 :: a :: r) H Q := h
theorem g2 {a0 a1 : Option V} {ti : TIp} (h : te (a0 :: a1 :: some x :: r) H fun y H1 => ti x y H1 fun z H2 => D.nx (a0 :: a1 :: some z :: r) H2) : tAug 2 te ti D (a0 :: a1 :: some x :: r) H := ⟨x, rfl, h⟩
theorem v3 {a0 a1 a2 : Option V} (h : Q v H) : tVar 3 (a0 :: a1 :: a2 :: some v :: r) H Q := ⟨v, rfl, h⟩
theorem n3 {a0 a1 a2 : Option V} {Q : L2.St → Hp → Prop} (h : Q (a0 :: a1 :: a2 :: some v :: r) H) : gName 3 v (a0 :: a1 :: a2 :: a :: r) H Q := h
theorem g3 {a0 a1 a2 : Option V} {ti : TIp} (h : te (a0 :: a1 :: a2 :: some x :: r) H fun y H1 => ti x y H1 fun z H2 => D.nx (a0 :: a1 :: a2 :: some z :: r) H2) : tAug 3 te ti D (a0 :: a1 :: a2 :: some x :: r) H := ⟨x, rfl, h⟩
theorem v4 {a0 a1 a2 a3 : Option V} (h : Q v H) : tVar 4 (a0 :: a1 :: a2 :: a3 :: some v :: r) H Q := ⟨v, rfl, h⟩
theorem n4 {a0 a1 a2 a3 : Option V} {Q : L2.St → Hp → Prop} (h : Q (a0 :: a1 :: a2 :: a3 :: some v :: r) H) : gName 4 v (a0 :: a1 :: a2 :: a3 :: a :: r) H Q := h
theorem g4 {a0 a1 a2 a3 : Option V} {ti : TIp} (h : te (a0 :: a1 :: a2 :: a3 :: some x :: r) H fun y H1 => ti x y H1 fun z H2 => D.nx (a0 :: a1 :: a2 :: a3 :: some z :: r) H2) : tAug 4 te ti D (a0 :: a1 :: a2 :: a3 :: some x :: r) H := ⟨x, rfl, h⟩
theorem v5 {a0 a1 a2 a3 a4 : Option V} (h : Q v H) : tVar 5 (a0 :: a1 :: a2 :: a3 :: a4 :: some v :: r) H Q := ⟨v, rfl, h⟩
theorem n5 {a0 a1 a2 a3 a4 : Option V} {Q : L2.St → Hp → Prop} (h : Q (a0 :: a1 :: a2 :: a3 :: a4 :: some v :: r) H) : gName 5 v (a0 :: a1 :: a2 :: a3 :: a4 :: a :: r) H Q := h
theorem g5 {a0 a1 a2 a3 a4 : Option V} {ti : TIp} (h : te (a0 :: a1 :: a2 :: a3 :: a4 :: some x :: r) H fun y H1 => ti x y H1 fun z H2 => D.nx (a0 :: a1 :: a2 :: a3 :: a4 :: some z :: r) H2) : tAug 5 te ti D (a0 :: a1 :: a2 :: a3 :: a4 :: some x :: r) H := ⟨x, rfl, h⟩
theorem v6 {a0 a1 a2 a3 a4 a5 : Option V} (h : Q v H) : tVar 6 (a0 :: a1 :: a2 :: a3 :: a4 :: a5 :: some v :: r) H Q := ⟨v, rfl, h⟩
theorem n6 {a0 a1 a2 a3 a4 a5 : Option V} {Q : L2.St → Hp → Prop} (h : Q (a0 :: a1 :: a2 :: a3 :: a4 :: a5 :: some v :: r) H) : gName 6 v (a0 :: a1 :: a2 :: a3 :: a4 :: a5 :: a :: r) H Q := h
theorem g6 {a0 a1 a2 a3 a4 a5 : Option V} {ti : TIp} (h : te (a0 :: a1 :: a2 :: a3 :: a4 :: a5 :: some x :: r) H fun y H1 => ti x y H1 fun z H2 => D.nx (a0 :: a1 :: a2 :: a3 :: a4 :: a5 :: some z :: r) H2) : tAug 6 te ti D (a0 :: a1 :: a2 :: a3 :: a4 :: a5 :: some x :: r) H := ⟨x, rfl, h⟩
theorem v7 {a0 a1 a2 a3 a4 a5 a6 : Option V} (h : Q v H) : tVar 7 (a0 :: a1 :: a2 :: a3 :: a4 :: a5 :: a6 :: some v :: r) H Q := ⟨v, rfl, h⟩
theorem n7 {a0 a1 a2 a3 a4 a5 a6 : Option V} {Q : L2.St → Hp → Prop} (h : Q (a0 :: a1 :: a2 :: a3 :: a4 :: a5 :: a6 :: some v :: r) H) : gName 7 v (a0 :: a1 :: a2 :: a3 :: a4 :: a5 :: a6 :: a :: r) H Q := h
theorem g7 {a0 a1 a2 a3 a4 a5 a6 : Option V} {ti : TIp} (h : te (a0 :: a1 :: a2 :: a3 :: a4 :: a5 :: a6 :: some x :: r) H fun y H1 => ti x y H1 fun z H2 => D.nx (a0 :: a1 :: a2 :: a3 :: a4 :: a5 :: a6 :: some z :: r) H2) : tAug 7 te ti D (a0 :: a1 :: a2 :: a3 :: a4 :: a5 :: a6 :: some x :: r) H := ⟨x, rfl, h⟩
theorem v8 {a0 a1 a2 a3 a4 a5 a6 a7 : Option V} (h : Q v H) : tVar 8 (a0 :: a1 :: a2 :: a3 :: a4 :: a5 :: a6 :: a7 :: some v :: r) H Q := ⟨v, rfl, h⟩
theorem n8 {a0 a1 a2 a3 a4 a5 a6 a7 : Option V} {Q : L2.St → Hp → Prop} (h : Q (a0 :: a1 :: a2 :: a3 :: a4 :: a5 :: a6 :: a7 :: some v :: r) H) : gName 8 v (a0 :: a1 :: a2 :: a3 :: a4 :: a5 :: a6 :: a7 :: a :: r) H Q := h
theorem g8 {a0 a1 a2 a3 a4 a5 a6 a7 : Option V} {ti : TIp} (h : te (a0 :: a1 :: a2 :: a3 :: a4 :: a5 :: a6 :: a7 :: some x :: r) H fun y H1 => ti x y H1 fun z H2 => D.nx (a0 :: a1 :: a2 :: a3 :: a4 :: a5 :: a6 :: a7 :: some z :: r) H2) : tAug 8 te ti D (a0 :: a1 :: a2 :: a3 :: a4 :: a5 :: a6 :: a7 :: some x :: r) H := ⟨x, rfl, h⟩
theorem v9 {a0 a1 a2 a3 a4 a5 a6 a7 a8 : Option V} (h : Q v H) : tVar 9 (a0 :: a1 :: a2 :: a3 :: a4 :: a5 :: a6 :: a7 :: a8 :: some v :: r) H Q := ⟨v, rfl, h⟩
theorem n9 {a0 a1 a2 a3 a4 a5 a6 a7 a8 : Option V} {Q : L2.St → Hp → Prop} (h : Q (a0 :: a1 :: a2 :: a3 :: a4 :: a5 :: a6 :: a7 :: a8 :: some v :: r) H) : gName 9 v (a0 :: a1 :: a2 :: a3 :: a4 :: a5 :: a6 :: a7 :: a8 :: a :: r) H Q := h
theorem g9 {a0 a1 a2 a3 a4 a5 a6 a7 a8 : Option V} {ti : TIp} (h : te (a0 :: a1 :: a2 :: a3 :: a4 :: a5 :: a6 :: a7 :: a8 :: some x :: r) H fun y H1 => ti x y H1 fun z H2 => D.nx (a0 :: a1 :: a2 :: a3 :: a4 :: a5 :: a6 :: a7 :: a8 :: some z :: r) H2) : tAug 9 te ti D (a0 :: a1 :: a2 :: a3 :: a4 :: a5 :: a6 :: a7 :: a8 :: some x :: r) H := ⟨x, rfl, h⟩
theorem v10 {a0 a1 a2 a3 a4 a5 a6 a7 a8 a9 : Option V} (h : Q v H) : tVar 10 (a0 :: a1 :: a2 :: a3 :: a4 :: a5 :: a6 :: a7 :: a8 :: a9 :: some v :: r) H Q := ⟨v, rfl, h⟩
theorem n10 {a0 a1 a2 a3 a4 a5 a6 a7 a8 a9 : Option V} {Q : L2.St → Hp → Prop} (h : Q (a0 :: a1 :: a2 :: a3 :: a4 :: a5 :: a6 :: a7 :: a8 :: a9 :: some v :: r) H) : gName 10 v (a0 :: a1 :: a2 :: a3 :: a4 :: a5 :: a6 :: a7 :: a8 :: a9 :: a :: r) H Q := h
theorem g10 {a0 a1 a2 a3 a4 a5 a6 a7 a8 a9 : Option V} {ti : TIp} (h : te (a0 :: a1 :: a2 :: a3 :: a4 :: a5 :: a6 :: a7 :: a8 :: a9 :: some x :: r) H fun y H1 => ti x y H1 fun z H2 => D.nx (a0 :: a1 :: a2 :: a3 :: a4 :: a5 :: a6 :: a7 :: a8 :: a9 :: some z :: r) H2) : tAug 10 te ti D (a0 :: a1 :: a2 :: a3 :: a4 :: a5 :: a6 :: a7 :: a8 :: a9 :: some x :: r) H := ⟨x, rfl, h⟩
theorem v11 {a0 a1 a2 a3 a4 a5 a6 a7 a8 a9 a10 : Option V} (h : Q v H) : tVar 11 (a0 :: a1 :: a2 :: a3 :: a4 :: a5 :: a6 :: a7 :: a8 :: a9 :: a10 :: some v :: r) H Q := ⟨v, rfl, h⟩
theorem n11 {a0 a1 a2 a3 a4 a5 a6 a7 a8 a9 a10 : Option V} {Q : L2.St → Hp → Prop} (h : Q (a0 :: a1 :: a2 :: a3 :: a4 :: a5 :: a6 :: a7 :: a8 :: a9 :: a10 :: some v :: r) H) : gName 11 v (a0 :: a1 :: a2 :: a3 :: a4 :: a5 :: a6 :: a7 :: a8 :: a9 :: a10 :: a :: r) H Q := h
theorem g11 {a0 a1 a2 a3 a4 a5 a6 a7 a8 a9 a10 : Option V} {ti : TIp} (h : te (a0 :: a1 :: a2 :: a3 :: a4 :: a5 :: a6 :: a7 :: a8 :: a9 :: a10 :: some x :: r) H fun y H1 => ti x y H1 fun z H2 => D.nx (a0 :: a1 :: a2 :: a3 :: a4 :: a5 :: a6 :: a7 :: a8 :: a9 :: a10 :: some z :: r) H2) : tAug 11 te ti D (a0 :: a1 :: a2 :: a3 :: a4 :: a5 :: a6 :: a7 :: a8 :: a9 :: a10 :: some x :: r) H := ⟨x, rfl, h⟩
theorem v12 {a0 a1 a2 a3 a4 a5 a6 a7 a8 a9 a10 a11 : Option V} (h : Q v H) : tVar 12 (a0 :: a1 :: a2 :: a3 :: a4 :: a5 :: a6 :: a7 :: a8 :: a9 :: a10 :: a11 :: some v :: r) H Q := ⟨v, rfl, h⟩
theorem n12 {a0 a1 a2 a3 a4 a5 a6 a7 a8 a9 a10 a11 : Option V} {Q : L2.St → Hp → Prop} (h : Q (a0 :: a1 :: a2 :: a3 :: a4 :: a5 :: a6 :: a7 :: a8 :: a9 :: a10 :: a11 :: some v :: r) H) : gName 12 v (a0 :: a1 :: a2 :: a3 :: a4 :: a5 :: a6 :: a7 :: a8 :: a9 :: a10 :: a11 :: a :: r) H Q := h
theorem g12 {a0 a1 a2 a3 a4 a5 a6 a7 a8 a9 a10 a11 : Option V} {ti : TIp} (h : te (a0 :: a1 :: a2 :: a3 :: a4 :: a5 :: a6 :: a7 :: a8 :: a9 :: a10 :: a11 :: some x :: r) H fun y H1 => ti x y H1 fun z H2 => D.nx (a0 :: a1 :: a2 :: a3 :: a4 :: a5 :: a6 :: a7 :: a8 :: a9 :: a10 :: a11 :: some z :: r) H2) : tAug 12 te ti D (a0 :: a1 :: a2 :: a3 :: a4 :: a5 :: a6 :: a7 :: a8 :: a9 :: a10 :: a11 :: some x :: r) H := ⟨x, rfl, h⟩
theorem v13 {a0 a1 a2 a3 a4 a5 a6 a7 a8 a9 a10 a11 a12 : Option V} (h : Q v H) : tVar 13 (a0 :: a1 :: a2 :: a3 :: a4 :: a5 :: a6 :: a7 :: a8 :: a9 :: a10 :: a11 :: a12 :: some v :: r) H Q := ⟨v, rfl, h⟩
theorem n13 {a0 a1 a2 a3 a4 a5 a6 a7 a8 a9 a10 a11 a12 : Option V} {Q : L2.St → Hp → Prop} (h : Q (a0 :: a1 :: a2 :: a3 :: a4 :: a5 :: a6 :: a7 :: a8 :: a9 :: a10 :: a11 :: a12 :: some v :: r) H) : gName 13 v (a0 :: a1 :: a2 :: a3 :: a4 :: a5 :: a6 :: a7 :: a8 :: a9 :: a10 :: a11 :: a12 :: a :: r) H Q := h
theorem g13 {a0 a1 a2 a3 a4 a5 a6 a7 a8 a9 a10 a11 a12 : Option V} {ti : TIp} (h : te (a0 :: a1 :: a2 :: a3 :: a4 :: a5 :: a6 :: a7 :: a8 :: a9 :: a10 :: a11 :: a12 :: some x :: r) H fun y H1 => ti x y H1 fun z H2 => D.nx (a0 :: a1 :: a2 :: a3 :: a4 :: a5 :: a6 :: a7 :: a8 :: a9 :: a10 :: a11 :: a12 :: some z :: r) H2) : tAug 13 te ti D (a0 :: a1 :: a2 :: a3 :: a4 :: a5 :: a6 :: a7 :: a8 :: a9 :: a10 :: a11 :: a12 :: some x :: r) H := ⟨x, rfl, h⟩
theorem v14 {a0 a1 a2 a3 a4 a5 a6 a7 a8 a9 a10 a11 a12 a13 : Option V} (h : Q v H) : tVar 14 (a0 :: a1 :: a2 :: a3 :: a4 :: a5 :: a6 :: a7 :: a8 :: a9 :: a10 :: a11 :: a12 :: a13 :: some v :: r) H Q := ⟨v, rfl, h⟩
theorem n14 {a0 a1 a2 a3 a4 a5 a6 a7 a8 a9 a10 a11 a12 a13 : Option V} {Q : L2.St → Hp → Prop} (h : Q (a0 :: a1 :: a2 :: a3 :: a4 :: a5 :: a6 :: a7 :: a8 :: a9 :: a10 :: a11 :: a12 :: a13 :: some v :: r) H) : gName 14 v (a0 :: a1 :: a2 :: a3 :: a4 :: a5 :: a6 :: a7 :: a8 :: a9 :: a10 :: a11 :: a12 :: a13 :: a :: r) H Q := h
theorem g14 {a0 a1 a2 a3 a4 a5 a6 a7 a8 a9 a10 a11 a12 a13 : Option V} {ti : TIp} (h : te (a0 :: a1 :: a2 :: a3 :: a4 :: a5 :: a6 :: a7 :: a8 :: a9 :: a10 :: a11 :: a12 :: a13 :: some x :: r) H fun y H1 => ti x y H1 fun z H2 => D.nx (a0 :: a1 :: a2 :: a3 :: a4 :: a5 :: a6 :: a7 :: a8 :: a9 :: a10 :: a11 :: a12 :: a13 :: some z :: r) H2) : tAug 14 te ti D (a0 :: a1 :: a2 :: a3 :: a4 :: a5 :: a6 :: a7 :: a8 :: a9 :: a10 :: a11 :: a12 :: a13 :: some x :: r) H := ⟨x, rfl, h⟩
theorem v15 {a0 a1 a2 a3 a4 a5 a6 a7 a8 a9 a10 a11 a12 a13 a14 : Option V} (h : Q v H) : tVar 15 (a0 :: a1 :: a2 :: a3 :: a4 :: a5 :: a6 :: a7 :: a8 :: a9 :: a10 :: a11 :: a12 :: a13 :: a14 :: some v :: r) H Q := ⟨v, rfl, h⟩
theorem n15 {a0 a1 a2 a3 a4 a5 a6 a7 a8 a9 a10 a11 a12 a13 a14 : Option V} {Q : L2.St → Hp → Prop} (h : Q (a0 :: a1 :: a2 :: a3 :: a4 :: a5 :: a6 :: a7 :: a8 :: a9 :: a10 :: a11 :: a12 :: a13 :: a14 :: some v :: r) H) : gName 15 v (a0 :: a1 :: a2 :: a3 :: a4 :: a5 :: a6 :: a7 :: a8 :: a9 :: a10 :: a11 :: a12 :: a13 :: a14 :: a :: r) H Q := h
theorem g15 {a0 a1 a2 a3 a4 a5 a6 a7 a8 a9 a10 a11 a12 a13 a14 : Option V} {ti : TIp} (h : te (a0 :: a1 :: a2 :: a3 :: a4 :: a5 :: a6 :: a7 :: a8 :: a9 :: a10 :: a11 :: a12 :: a13 :: a14 :: some x :: r) H fun y H1 => ti x y H1 fun z H2 => D.nx (a0 :: a1 :: a2 :: a3 :: a4 :: a5 :: a6 :: a7 :: a8 :: a9 :: a10 :: a11 :: a12 :: a13 :: a14 :: some z :: r) H2) : tAug 15 te ti D (a0 :: a1 :: a2 :: a3 :: a4 :: a5 :: a6 :: a7 :: a8 :: a9 :: a10 :: a11 :: a12 :: a13 :: a14 :: some x :: r) H := ⟨x, rfl, h⟩
theorem room65 {k : Nat} {A : Around} (r : Room k A) : A.units + 65 < cLine := by
  have := r.un
  omega
/-! ### iterators -/
def lcRest (g : TG) (tt : TT) (te : TE) (vs : List Nat) (σ : L2.St) (Q : VK) (J : It) (H1 : Hp) : Prop := ∀ D, H1 D = none → ∃ W : Nat → Nat → Hp → Prop, (∃ m, W 0 m (upd H1 D (.lst []))) ∧ ∀ i m H, W i m H →
  (J.stop i H ∧ Q (.ref D) H) ∨ (J.go i H ∧ ∃ Nx : Hp → Prop, (∀ H', Nx H' → ∃ m', m' < m ∧ W (i + 1) m' H') ∧ ∀ x H', J.yld i H x H' → g x (wipe σ vs) H' fun σ2 H2 => wipe σ2 vs = wipe σ vs ∧ tt σ2 H2 fun b H3 =>
    if b = true then te σ2 H3 fun y H4 => ∃ acc, H4 D = some (.lst acc) ∧ acc.length < sizeLine ∧ Nx (upd H4 D (.lst (acc ++ [y]))) else Nx H3)
theorem lc {wi : TI} {tt : TT} {ws : List Nat} (h : wi σ H (lcRest g tt te ws σ Q)) : tLc wi g tt te ws σ H Q := h
def forRest (g : TG) (tb : TS) (D : Ends) (σ0 : L2.St) (J : It) (H1 : Hp) : Prop := ∃ W : Nat → Nat → L2.St → Hp → Prop, (∃ m, W 0 m σ0 H1) ∧ ∀ i m σ H, W i m σ H →
  (J.stop i H ∧ D.nx σ H) ∨ (J.go i H ∧ ∃ N : L2.St → Hp → Prop, (∀ σ' H', N σ' H' → ∃ m', m' < m ∧ W (i + 1) m' σ' H') ∧ ∀ x H', J.yld i H x H' → g x σ H' fun σ2 H2 => tb { D with nx := N, ct := N, bk := D.nx } σ2 H2)
theorem for_ {wi : TI} {tb : TS} (h : wi σ H (forRest g tb D σ)) : tFor wi g tb D σ H := h
variable {R : It → Hp → Prop}
theorem ilist (h : te σ H fun x H1 => ∃ a, x = .ref a ∧ (∃ xs, SqL K H1 a xs) ∧ R (Itl K a) H1) : iList K te σ H R := h
theorem itup (h : te σ H fun x H1 => ∃ a, x = .ref a ∧ (∃ xs, SqT K H1 a xs) ∧ R (Itt K a) H1) : iTup K te σ H R := h
theorem irng1 (h : tr σ H fun vs H1 => ∃ j : Int, vs = [.int j] ∧ -(2 ^ 62) ≤ j ∧ j < 2 ^ 62 ∧ R (Itr 0 j.toNat) H1) : iRng1 tr σ H R := h
theorem irng2 (h : tr σ H fun vs H1 => ∃ i j : Int, vs = [.int i, .int j] ∧ (-(2 ^ 62) ≤ i ∧ i < 2 ^ 62 ∧ -(2 ^ 62) ≤ j ∧ j < 2 ^ 62) ∧ R (Itr i (j - i).toNat) H1) : iRng2 tr σ H R := h
theorem ienum (h : tr σ H fun vs H1 => ∃ a xs, vs = [.ref a] ∧ SqL K H1 a xs ∧ R (Ite K a) H1) : iEnum K tr σ H R := h
theorem istr (h : te σ H fun v H1 => ∃ x, v = .str x ∧ R (Its x) H1) : iStr te σ H R := h
theorem refA {a : Addr} {P : Addr → Prop} (h : P a) : ∃ b, V.ref a = .ref b ∧ P b := ⟨a, rfl, h⟩
theorem strA {a : Str} {P : Str → Prop} (h : P a) : ∃ b, V.str a = .str b ∧ P b := ⟨a, rfl, h⟩
theorem sqA {l : Addr} {xs : List V} {A : Prop} (h : H l = some (.lst xs)) (q : A) : (∃ xs, SqL K H l xs) ∧ A := ⟨⟨_, SqL.of h⟩, q⟩
theorem sqAq {l : Addr} {xs : List V} {A : Prop} (h : SqL K H l xs) (q : A) : (∃ xs, SqL K H l xs) ∧ A := ⟨⟨_, h⟩, q⟩
theorem stA {l : Addr} {xs : List V} {A : Prop} (h : H l = some (.tup xs)) (q : A) : (∃ xs, SqT K H l xs) ∧ A := ⟨⟨_, SqT.of h⟩, q⟩
theorem stAq {l : Addr} {xs : List V} {A : Prop} (h : SqT K H l xs) (q : A) : (∃ xs, SqT K H l xs) ∧ A := ⟨⟨_, h⟩, q⟩
theorem enA {l : Addr} {xs : List V} {P : Addr → Prop} (h : H l = some (.lst xs)) (q : P l) : ∃ a ys, [V.ref l] = [.ref a] ∧ SqL K H a ys ∧ P a := ⟨l, xs, rfl, SqL.of h, q⟩
theorem enAq {l : Addr} {xs : List V} {P : Addr → Prop} (h : SqL K H l xs) (q : P l) : ∃ a ys, [V.ref l] = [.ref a] ∧ SqL K H a ys ∧ P a := ⟨l, xs, rfl, h, q⟩
theorem lenL {l : Addr} {xs : List V} {P : List V → Prop} (h : H l = some (.lst xs)) (q : P xs) : ∃ p ys, [V.ref l] = [.ref p] ∧ (SqL K H p ys ∨ SqT K H p ys) ∧ P ys := ⟨l, xs, rfl, .inl (SqL.of h), q⟩
theorem lenLq {l : Addr} {xs : List V} {P : List V → Prop} (h : SqL K H l xs) (q : P xs) : ∃ p ys, [V.ref l] = [.ref p] ∧ (SqL K H p ys ∨ SqT K H p ys) ∧ P ys := ⟨l, xs, rfl, .inl h, q⟩
theorem lenTq {l : Addr} {xs : List V} {P : List V → Prop} (h : SqT K H l xs) (q : P xs) : ∃ p ys, [V.ref l] = [.ref p] ∧ (SqL K H p ys ∨ SqT K H p ys) ∧ P ys := ⟨l, xs, rfl, .inr h, q⟩
theorem lenT {l : Addr} {xs : List V} {P : List V → Prop} (h : H l = some (.tup xs)) (q : P xs) : ∃ p ys, [V.ref l] = [.ref p] ∧ (SqL K H p ys ∨ SqT K H p ys) ∧ P ys := ⟨l, xs, rfl, .inr (SqT.of h), q⟩
/-! ### comprehensions: each element by a relation -/
def But (D : Addr) (H H' : Hp) : Prop := ∀ b o, b ≠ D → H b = some o → H' b = some o
theorem But.refl {D : Addr} : But D H H := fun _ _ _ h => h
theorem But.trans {D : Addr} {H H1 H2 : Hp} (a : But D H H1) (b : But D H1 H2) : But D H H2 := fun x o n h => b x o n (a x o n h)
theorem But.same {D : Addr} {H H1 : Hp} (a : Same H H1) : But D H H1 := fun x o _ h => a x o h
theorem But.at_ {D : Addr} {o : HO} : But D H (upd H D o) := fun x u n h => by rw [upd_ne n]; exact h
theorem But.to {D : Addr} {H H1 : Hp} (a : But D H H1) (n : H D = none) : Same H H1 := fun x o h => a x o (fun z => by rw [z, n] at h; cases h) h
theorem lc_rel {J : It} {n : Nat} {G : Hp → Prop} {Y : Nat → Hp → V → Hp → Prop} (w : Walk J n G Y) {g : TG} {te : TE} {vs : List Nat} {σ : L2.St} {H1 : Hp} {D : Addr} {Qd : Hp → Prop} (R : Nat → V → Hp → Prop)
    (nD : H1 D = none) (hn : n ≤ 100000) (mono : ∀ i v H H', R i v H → But D H H' → R i v H') (hG : ∀ H, But D H1 H → G H)
    (hs : ∀ i x H H' (Kt : VK), i < n → But D H1 H → (∃ xs, H D = some (.lst xs)) → Y i H x H' → (∀ y H4, R i y H4 → Same H H4 → Kt y H4) → g x (wipe σ vs) H' fun σ2 H2 => wipe σ2 vs = wipe σ vs ∧ te σ2 H2 Kt)
    (hd : ∀ H ys, ys.length = n → (∀ i v, ys[i]? = some v → R i v H) → Same H1 H → H D = some (.lst ys) → Qd H) :
    ∃ W : Nat → Nat → Hp → Prop, (∃ m, W 0 m (upd H1 D (.lst []))) ∧ ∀ i m H, W i m H →
      (J.stop i H ∧ Qd H) ∨ (J.go i H ∧ ∃ Nx : Hp → Prop, (∀ H', Nx H' → ∃ m', m' < m ∧ W (i + 1) m' H') ∧ ∀ x H', J.yld i H x H' → g x (wipe σ vs) H' fun σ2 H2 => wipe σ2 vs = wipe σ vs ∧ tYes σ2 H2 fun b H3 =>
        if b = true then te σ2 H3 fun y H4 => ∃ acc, H4 D = some (.lst acc) ∧ acc.length < sizeLine ∧ Nx (upd H4 D (.lst (acc ++ [y]))) else Nx H3) := by
  refine lc_it w (fun i H => ∃ ys, ys.length = i ∧ (∀ i v, ys[i]? = some v → R i v H) ∧ But D H1 H ∧ H D = some (.lst ys)) ⟨[], rfl, fun i v h => by simp at h, But.at_, upd_same⟩ (fun i H _ h => ?_) (fun i x H H' hi h y => ?_) (fun H h => ?_)
  · obtain ⟨_, _, _, b, _⟩ := h
    exact hG H b
  · obtain ⟨ys, hl, hr, b, hD⟩ := h
    refine hs i x H H' _ hi b ⟨_, hD⟩ y fun v H4 r sm => ?_
    refine ⟨ys, sm _ _ hD, szl (by omega), ys ++ [v], by simp [hl], fun j u hj => ?_, (b.trans (But.same sm)).trans But.at_, upd_same⟩
    by_cases hj2 : j < ys.length
    · rw [List.getElem?_append_left hj2] at hj
      exact mono _ _ _ _ (hr j u hj) ((But.same sm).trans But.at_)
    · have e : j = ys.length := by
        have := (List.getElem?_eq_some_iff.mp hj).1
        simp at this; omega
      subst e
      rw [List.getElem?_append_right (Nat.le_refl _)] at hj
      simp at hj
      subst hj
      rw [hl]
      exact mono _ _ _ _ r But.at_
  · obtain ⟨ys, hl, hr, b, hD⟩ := h
    exact hd H ys hl hr (b.to nD) hD
/-! ### tests, ints in lists -/
theorem ifD {p : Prop} [Decidable p] {A B : Prop} (h1 : p → A) (h2 : ¬ p → B) : if decide p = true then A else B := by
  by_cases h : p
  · rw [decide_eq_true h, if_pos rfl]; exact h1 h
  · rw [decide_eq_false h, if_neg Bool.false_ne_true]; exact h2 h
theorem ifN {p : Prop} [Decidable p] {A B : Prop} (h1 : ¬ p → A) (h2 : p → B) : if (!decide p) = true then A else B := by
  by_cases h : p
  · rw [decide_eq_true h, if_neg (by decide)]; exact h2 h
  · rw [decide_eq_false h, if_pos (by decide)]; exact h1 h
theorem ifT {A B : Prop} (h : A) : if true = true then A else B := by rw [if_pos rfl]; exact h
theorem ifF {A B : Prop} (h : B) : if false = true then A else B := by rw [if_neg Bool.false_ne_true]; exact h
theorem ifB {b : Bool} {A B : Prop} (h1 : b = true → A) (h2 : b = false → B) : if b = true then A else B := by
  cases b with
  | true => exact ifT (h1 rfl)
  | false => exact ifF (h2 rfl)
theorem ifNB {b : Bool} {A B : Prop} (h1 : b = false → A) (h2 : b = true → B) : if (!b) = true then A else B := by
  cases b with
  | true => exact ifF (h2 rfl)
  | false => exact ifT (h1 rfl)
theorem flat_ints (ns : List Int) : (ns.map V.int).all flatV = true := by
  rw [List.all_eq_true]
  intro x hx
  obtain ⟨i, _, rfl⟩ := List.mem_map.mp hx
  rfl
theorem flat_strs (ns : List Str) : (ns.map V.str).all flatV = true := by
  rw [List.all_eq_true]
  intro x hx
  obtain ⟨i, _, rfl⟩ := List.mem_map.mp hx
  rfl
theorem eqV_ints (a b : Int) : eqV (.int a) (.int b) = decide (a = b) := by
  by_cases h : a = b <;> simp [eqV, h]
theorem inV_ints (x : Int) (r : List Int) : inV (.int x) (r.map V.int) = decide (x ∈ r) := by
  unfold inV
  rw [List.any_map]
  by_cases h : x ∈ r
  · rw [decide_eq_true h, List.any_eq_true]
    exact ⟨x, h, beq_self_eq_true x⟩
  · rw [decide_eq_false h, List.any_eq_false]
    intro y hy e
    have e2 : (y == x) = true := e
    exact h (by rw [← eq_of_beq e2]; exact hy)
theorem first_at (ns : List Int) (n : Int) (h : n ∈ ns) : ∃ j : Nat, ns[j]? = some n ∧ ∀ i, i < j → ns[i]? ≠ some n := by
  induction ns with
  | nil => simp at h
  | cons a r ih =>
    by_cases e : a = n
    · exact ⟨0, by simp [e], fun i hi => absurd hi (Nat.not_lt_zero _)⟩
    · obtain ⟨j, h1, h2⟩ := ih ((List.mem_cons.mp h).resolve_left fun z => e z.symm)
      refine ⟨j + 1, by simpa using h1, fun i hi => ?_⟩
      cases i with
      | zero => simp [e]
      | succ i => simpa using h2 i (by omega)
theorem inI {p : Addr} {ns : List Int} {n : Int} (h : H p = some (.lst (ns.map V.int))) (q : Q (.bl (decide (n ∈ ns))) H) : rIn K false (.int n) (.ref p) H Q :=
  ⟨p, _, rfl, .inl (SqL.of h), rfl, flat_ints _, by rw [inV_ints]; exact q⟩
theorem ninI {p : Addr} {ns : List Int} {n : Int} (h : H p = some (.lst (ns.map V.int))) (q : Q (.bl (!decide (n ∈ ns))) H) : rIn K true (.int n) (.ref p) H Q :=
  ⟨p, _, rfl, .inl (SqL.of h), rfl, flat_ints _, by rw [inV_ints]; exact q⟩
theorem idxI {a : Addr} {ns : List Int} {n : Int} {j : Nat} (h : H a = some (.lst (ns.map V.int))) (hj : ns[j]? = some n) (hf : ∀ i, i < j → ns[i]? ≠ some n) (q : Q (.int (j : Nat)) H) : rIndex K (.ref a) [.int n] H Q :=
  ⟨a, _, _, j, .int n, rfl, rfl, SqL.of h, rfl, flat_ints _, by rw [List.getElem?_map, hj]; rfl, by rw [eqV_ints, decide_eq_true rfl], fun m z' hm hz => by
    rw [List.getElem?_map] at hz
    cases e : ns[m]? with
    | none => rw [e] at hz; cases hz
    | some x =>
      rw [e] at hz; cases hz
      rw [eqV_ints]
      exact decide_eq_false fun e2 => hf m hm (by rw [e, e2]), q⟩
theorem vals_map {n : Nat} {ns : List V} (f : Nat → Int) (ln : ns.length = n) (hn : ∀ (i : Nat) v, ns[i]? = some v → v = .int (f i)) : ns = ((List.range n).map f).map V.int := by
  refine List.ext_getElem? fun i => ?_
  rw [List.map_map, List.getElem?_map]
  by_cases hi : i < n
  · obtain ⟨v, hv⟩ : ∃ v, ns[i]? = some v := ⟨_, List.getElem?_eq_getElem (by omega)⟩
    rw [hv, List.getElem?_range hi, hn i v hv]
    rfl
  · rw [List.getElem?_eq_none (by omega), List.getElem?_eq_none (by rw [List.length_range]; omega)]
    rfl
theorem at_int {ns : List Int} {i : Int} {j : Nat} {n : Int} (e : i = (j : Int)) (h : ns[j]? = some n) : atI (ns.map V.int) i = some (.int n) := by
  subst e
  exact atI_nat (by rw [List.getElem?_map, h]; rfl)
theorem at_val {xs : List V} {i : Int} {j : Nat} (e : i = (j : Int)) (h : xs[j]? = some v) : atI xs i = some v := by
  subst e
  exact atI_nat h
theorem zr {i : Nat} {H H' : Hp} (y : YFn (fun (i : Nat) => V.int ((0 : Int) + (i : Int))) i H x H') : x = .int (i : Int) ∧ H' = H := by
  obtain ⟨a, b⟩ := y
  exact ⟨by rw [b]; show V.int (0 + (i : Int)) = _; rw [Int.zero_add], a⟩
/-! ### new objects, by what they leave -/
def NewT (Q : VK) (xs : List V) (H : Hp) : Prop := xs.length ≤ sizeLine ∧ ∀ p, H p = none → Q (.ref p) (upd H p (.tup xs))
def NewL (Q : VK) (xs : List V) (H : Hp) : Prop := xs.length ≤ sizeLine ∧ ∀ p, H p = none → Q (.ref p) (upd H p (.lst xs))
theorem tupN (h : tr σ H (NewT Q)) : tTup tr σ H Q := h
theorem lstN (h : tr σ H (NewL Q)) : tLst tr σ H Q := h
theorem nwT {xs : List V} (s : xs.length ≤ sizeLine) (h : ∀ p H', H p = none → Same H H' → H' p = some (.tup xs) → Q (.ref p) H') : NewT Q xs H := ⟨s, fun p np => h p _ np (same_new np) upd_same⟩
theorem nwL {xs : List V} (s : xs.length ≤ sizeLine) (h : ∀ p H', H p = none → Same H H' → H' p = some (.lst xs) → Q (.ref p) H') : NewL Q xs H := ⟨s, fun p np => h p _ np (same_new np) upd_same⟩
def ListOf (K : PySem.W.Frag) (Q : VK) (vs : List V) (H : Hp) : Prop := ∃ p ys, vs = [.ref p] ∧ (SqL K H p ys ∨ SqT K H p ys) ∧ ∀ l, H l = none → Q (.ref l) (upd H l (.lst ys))
theorem cbListOf (h : tr σ H (ListOf K Q)) : tCB (fun xs H Q => ∃ p ys, xs = [.ref p] ∧ (SqL K H p ys ∨ SqT K H p ys) ∧ ∀ l, H l = none → Q (.ref l) (upd H l (.lst ys))) tr σ H Q := h
theorem listOfq {a : Addr} {ys : List V} (s : SqL K H a ys) (h : ∀ p H', H p = none → Same H H' → H' p = some (.lst ys) → Q (.ref p) H') : ListOf K Q [.ref a] H := ⟨a, ys, rfl, .inl s, fun p np => h p _ np (same_new np) upd_same⟩
theorem listOf {a : Addr} {ys : List V} (s : H a = some (.lst ys)) (h : ∀ p H', H p = none → Same H H' → H' p = some (.lst ys) → Q (.ref p) H') : ListOf K Q [.ref a] H := listOfq (SqL.of s) h
def SlL (K : PySem.W.Frag) (x : V) (lo hi : Option Int) (Q : VK) (H : Hp) : Prop := ∃ a xs, x = .ref a ∧ SqL K H a xs ∧ ∀ p, H p = none → Q (.ref p) (upd H p (.lst (cutV xs lo hi)))
theorem slN {tl th : TO} (h : te σ H fun x H1 => tl σ H1 fun l H2 => th σ H2 fun u H3 => SlL K x l u Q H3) : L2.tSl (rSlL K) te tl th σ H Q := h
theorem slq {a : Addr} {xs : List V} {lo hi : Option Int} (s : SqL K H a xs) (h : ∀ p H', H p = none → Same H H' → H' p = some (.lst (cutV xs lo hi)) → Q (.ref p) H') : SlL K (.ref a) lo hi Q H := ⟨a, xs, rfl, s, fun p np => h p _ np (same_new np) upd_same⟩
theorem slo {a : Addr} {xs : List V} {lo hi : Option Int} (s : H a = some (.lst xs)) (h : ∀ p H', H p = none → Same H H' → H' p = some (.lst (cutV xs lo hi)) → Q (.ref p) H') : SlL K (.ref a) lo hi Q H := slq (SqL.of s) h
def SrtI (K : PySem.W.Frag) (Q : VK) (vs : List V) (H : Hp) : Prop := rSortedI K vs H Q
theorem cbSrtI (h : tr σ H (SrtI K Q)) : tCB (rSortedI K) tr σ H Q := h
theorem srtI {a : Addr} {ns : List Int} (s : SqL K H a (ns.map V.int)) (h : ∀ (ns' : List Int) p H', ns'.Perm ns → ns'.Pairwise (· ≤ ·) → H p = none → Same H H' → H' p = some (.lst (ns'.map V.int)) → Q (.ref p) H') : SrtI K Q [.ref a] H :=
  ⟨a, ns, rfl, s, fun ns' p e1 e2 np => h ns' p _ e1 e2 np (same_new np) upd_same⟩
theorem srtIo {a : Addr} {ns : List Int} (s : H a = some (.lst (ns.map V.int))) (h : ∀ (ns' : List Int) p H', ns'.Perm ns → ns'.Pairwise (· ≤ ·) → H p = none → Same H H' → H' p = some (.lst (ns'.map V.int)) → Q (.ref p) H') : SrtI K Q [.ref a] H := srtI (SqL.of s) h
theorem eqD {d e : PyData} (h1 : Dp K H x d) (h2 : Dp K H y e) (s1 : SeqAt.shaped d = true) (s2 : SeqAt.shaped e = true) (q : Q (.bl (PyData.eqv d e)) H) : rEqD K x y H Q := ⟨d, e, h1, h2, s1, s2, q⟩
theorem neD {d e : PyData} (h1 : Dp K H x d) (h2 : Dp K H y e) (s1 : SeqAt.shaped d = true) (s2 : SeqAt.shaped e = true) (q : Q (.bl (!PyData.eqv d e)) H) : rNeD K x y H Q := ⟨d, e, h1, h2, s1, s2, q⟩
/-! ### isinstance -/
theorem isi {T U : String} {b : Bool} (t : TyX K H x (.type T)) (k : kitB T U = some b) (q : Q (.bl b) H) : rIsi K [x, .ty U] H Q := ⟨x, .ty U, _, _, b, rfl, .ty _, t, kit_ty k, q⟩
theorem isi_ii {n : Int} (q : Q (.bl true) H) : rIsi K [.int n, .ty "int"] H Q := isi (.base (.int _)) (by decide +kernel) q
theorem isi_ib {n : Int} (q : Q (.bl false) H) : rIsi K [.int n, .ty "bool"] H Q := isi (.base (.int _)) (by decide +kernel) q
theorem isi_is {n : Int} (q : Q (.bl false) H) : rIsi K [.int n, .ty "str"] H Q := isi (.base (.int _)) (by decide +kernel) q
theorem isi_il {n : Int} (q : Q (.bl false) H) : rIsi K [.int n, .ty "list"] H Q := isi (.base (.int _)) (by decide +kernel) q
theorem isi_it {n : Int} (q : Q (.bl false) H) : rIsi K [.int n, .ty "tuple"] H Q := isi (.base (.int _)) (by decide +kernel) q
theorem isi_id {n : Int} (q : Q (.bl false) H) : rIsi K [.int n, .ty "dict"] H Q := isi (.base (.int _)) (by decide +kernel) q
theorem isi_bi {n : Bool} (q : Q (.bl true) H) : rIsi K [.bl n, .ty "int"] H Q := isi (.base (.bl _)) (by decide +kernel) q
theorem isi_bb {n : Bool} (q : Q (.bl true) H) : rIsi K [.bl n, .ty "bool"] H Q := isi (.base (.bl _)) (by decide +kernel) q
theorem isi_bs {n : Bool} (q : Q (.bl false) H) : rIsi K [.bl n, .ty "str"] H Q := isi (.base (.bl _)) (by decide +kernel) q
theorem isi_bl {n : Bool} (q : Q (.bl false) H) : rIsi K [.bl n, .ty "list"] H Q := isi (.base (.bl _)) (by decide +kernel) q
theorem isi_bt {n : Bool} (q : Q (.bl false) H) : rIsi K [.bl n, .ty "tuple"] H Q := isi (.base (.bl _)) (by decide +kernel) q
theorem isi_bd {n : Bool} (q : Q (.bl false) H) : rIsi K [.bl n, .ty "dict"] H Q := isi (.base (.bl _)) (by decide +kernel) q
theorem isi_si {n : Str} (q : Q (.bl false) H) : rIsi K [.str n, .ty "int"] H Q := isi (.base (.str _)) (by decide +kernel) q
theorem isi_sb {n : Str} (q : Q (.bl false) H) : rIsi K [.str n, .ty "bool"] H Q := isi (.base (.str _)) (by decide +kernel) q
theorem isi_ss {n : Str} (q : Q (.bl true) H) : rIsi K [.str n, .ty "str"] H Q := isi (.base (.str _)) (by decide +kernel) q
theorem isi_sl {n : Str} (q : Q (.bl false) H) : rIsi K [.str n, .ty "list"] H Q := isi (.base (.str _)) (by decide +kernel) q
theorem isi_st {n : Str} (q : Q (.bl false) H) : rIsi K [.str n, .ty "tuple"] H Q := isi (.base (.str _)) (by decide +kernel) q
theorem isi_sd {n : Str} (q : Q (.bl false) H) : rIsi K [.str n, .ty "dict"] H Q := isi (.base (.str _)) (by decide +kernel) q
theorem isi_li {n : Addr} {xs : List V} (h : H n = some (.lst xs)) (q : Q (.bl false) H) : rIsi K [.ref n, .ty "int"] H Q := isi (.base (.lst h)) (by decide +kernel) q
theorem isi_lb {n : Addr} {xs : List V} (h : H n = some (.lst xs)) (q : Q (.bl false) H) : rIsi K [.ref n, .ty "bool"] H Q := isi (.base (.lst h)) (by decide +kernel) q
theorem isi_ls {n : Addr} {xs : List V} (h : H n = some (.lst xs)) (q : Q (.bl false) H) : rIsi K [.ref n, .ty "str"] H Q := isi (.base (.lst h)) (by decide +kernel) q
theorem isi_ll {n : Addr} {xs : List V} (h : H n = some (.lst xs)) (q : Q (.bl true) H) : rIsi K [.ref n, .ty "list"] H Q := isi (.base (.lst h)) (by decide +kernel) q
theorem isi_lt {n : Addr} {xs : List V} (h : H n = some (.lst xs)) (q : Q (.bl false) H) : rIsi K [.ref n, .ty "tuple"] H Q := isi (.base (.lst h)) (by decide +kernel) q
theorem isi_ld {n : Addr} {xs : List V} (h : H n = some (.lst xs)) (q : Q (.bl false) H) : rIsi K [.ref n, .ty "dict"] H Q := isi (.base (.lst h)) (by decide +kernel) q
theorem isi_ti {n : Addr} {xs : List V} (h : H n = some (.tup xs)) (q : Q (.bl false) H) : rIsi K [.ref n, .ty "int"] H Q := isi (.base (.tup h)) (by decide +kernel) q
theorem isi_tb {n : Addr} {xs : List V} (h : H n = some (.tup xs)) (q : Q (.bl false) H) : rIsi K [.ref n, .ty "bool"] H Q := isi (.base (.tup h)) (by decide +kernel) q
theorem isi_ts {n : Addr} {xs : List V} (h : H n = some (.tup xs)) (q : Q (.bl false) H) : rIsi K [.ref n, .ty "str"] H Q := isi (.base (.tup h)) (by decide +kernel) q
theorem isi_tl {n : Addr} {xs : List V} (h : H n = some (.tup xs)) (q : Q (.bl false) H) : rIsi K [.ref n, .ty "list"] H Q := isi (.base (.tup h)) (by decide +kernel) q
theorem isi_tt {n : Addr} {xs : List V} (h : H n = some (.tup xs)) (q : Q (.bl true) H) : rIsi K [.ref n, .ty "tuple"] H Q := isi (.base (.tup h)) (by decide +kernel) q
theorem isi_td {n : Addr} {xs : List V} (h : H n = some (.tup xs)) (q : Q (.bl false) H) : rIsi K [.ref n, .ty "dict"] H Q := isi (.base (.tup h)) (by decide +kernel) q
theorem isi_ni  (q : Q (.bl false) H) : rIsi K [.non, .ty "int"] H Q := isi (.base .non) (by decide +kernel) q
theorem isi_nb  (q : Q (.bl false) H) : rIsi K [.non, .ty "bool"] H Q := isi (.base .non) (by decide +kernel) q
theorem isi_ns  (q : Q (.bl false) H) : rIsi K [.non, .ty "str"] H Q := isi (.base .non) (by decide +kernel) q
theorem isi_nl  (q : Q (.bl false) H) : rIsi K [.non, .ty "list"] H Q := isi (.base .non) (by decide +kernel) q
theorem isi_nt  (q : Q (.bl false) H) : rIsi K [.non, .ty "tuple"] H Q := isi (.base .non) (by decide +kernel) q
theorem isi_nd  (q : Q (.bl false) H) : rIsi K [.non, .ty "dict"] H Q := isi (.base .non) (by decide +kernel) q
/-! ### slices of lists -/
theorem cut_to (xs : List V) (n : Nat) : cutV xs none (some (n : Int)) = xs.take n := by
  unfold cutV
  rw [HT.sIx_nat, HT.sIx_none, List.drop_zero, Nat.sub_zero]
  rcases Nat.le_total n xs.length with h | h
  · rw [Nat.min_eq_left h]
  · rw [Nat.min_eq_right h, List.take_of_length_le (Nat.le_refl _), List.take_of_length_le h]
theorem cut_from (xs : List V) (n : Nat) : cutV xs (some (n : Int)) none = xs.drop n := by
  unfold cutV
  rw [HT.sIx_nat, HT.sIx_none]
  rcases Nat.le_total n xs.length with h | h
  · rw [Nat.min_eq_left h, List.take_of_length_le (by rw [List.length_drop]; omega)]
  · rw [Nat.min_eq_right h, List.drop_of_length_le h, List.drop_of_length_le (Nat.le_refl _), List.take_nil]
theorem eqv_self (d : PyData) (h : d.canLay0 = true) : PyData.eqv d d = true := PySem.SeqAt.eqv_refl d h
/-! ### ints of a list, filtered -/
theorem lc_fl {a : Addr} {ns : List Int} {g : TG} {tt : TT} {te : TE} {vs : List Nat} {σ : L2.St} {H1 : Hp} {C : Addr} {Qd : Hp → Prop} (p : Int → Bool) (hS : SqL K H1 a (ns.map V.int)) (nD : H1 C = none) (hn : ns.length ≤ 90000)
    (hs : ∀ (i : Nat) H (n : Int) (Kt : VK) (Kn : Hp → Prop), ns[i]? = some n → But C H1 H → (p n = true → Kt (.int n) H) → (p n = false → Kn H) → g (.int n) (wipe σ vs) H fun σ2 H2 => wipe σ2 vs = wipe σ vs ∧ tt σ2 H2 fun b H3 => if b = true then te σ2 H3 Kt else Kn H3)
    (hd : ∀ H, Same H1 H → H C = some (.lst ((ns.filter p).map V.int)) → Qd H) :
    ∃ W : Nat → Nat → Hp → Prop, (∃ m, W 0 m (upd H1 C (.lst []))) ∧ ∀ i m H, W i m H →
      ((Itl K a).stop i H ∧ Qd H) ∨ ((Itl K a).go i H ∧ ∃ Nx : Hp → Prop, (∀ H', Nx H' → ∃ m', m' < m ∧ W (i + 1) m' H') ∧ ∀ x H', (Itl K a).yld i H x H' → g x (wipe σ vs) H' fun σ2 H2 => wipe σ2 vs = wipe σ vs ∧ tt σ2 H2 fun b H3 =>
        if b = true then te σ2 H3 fun y H4 => ∃ acc, H4 C = some (.lst acc) ∧ acc.length < sizeLine ∧ Nx (upd H4 C (.lst (acc ++ [y]))) else Nx H3) := by
  refine lc_it (walk_list (xs := ns.map V.int)) (fun i H => But C H1 H ∧ H C = some (.lst (((ns.take i).filter p).map V.int))) ⟨But.at_, by simp [upd_same]⟩ (fun i H _ h => (h.1.to nD).seq hS) (fun i x H H' hi ⟨b, hD⟩ y => ?_) (fun H ⟨b, hD⟩ => ?_)
  · obtain ⟨rfl, hx⟩ := y
    rw [List.getElem?_map] at hx
    obtain ⟨n, hn2, rfl⟩ : ∃ n, ns[i]? = some n ∧ V.int n = x := by
      cases e : ns[i]? with
      | none => rw [e] at hx; cases hx
      | some n => rw [e] at hx; exact ⟨n, rfl, Option.some.inj hx⟩
    have tk : (ns.take (i + 1)).filter p = (ns.take i).filter p ++ [n].filter p := by
      rw [List.take_add_one, hn2, List.filter_append]; rfl
    refine hs i _ n _ _ hn2 b (fun hp => ?_) (fun hp => ?_)
    · refine ⟨_, hD, szl ?_, b.trans But.at_, ?_⟩
      · rw [List.length_map]
        have := List.length_filter_le p (ns.take i)
        rw [List.length_take] at this
        omega
      · rw [upd_same, tk, List.filter_cons_of_pos hp]
        simp
    · refine ⟨b, ?_⟩
      rw [tk, List.filter_cons_of_neg (by simp [hp])]
      simpa using hD
  · rw [List.length_map, List.take_of_length_le (Nat.le_refl _)] at hD
    exact hd H (b.to nD) hD
theorem intI {i : Int} {A : Int → Prop} {B : Prop} (h : A i) : (∃ j, [V.int i] = [.int j] ∧ A j) ∨ B := .inl ⟨i, rfl, h⟩
theorem pos_ne {i : Int} (h : 0 < i) : i ≠ 0 := by omega
theorem ifnT {A B : Prop} (h : B) : if (!true) = true then A else B := by rw [if_neg (by decide)]; exact h
theorem ifnF {A B : Prop} (h : A) : if (!false) = true then A else B := by rw [if_pos (by decide)]; exact h
theorem cbListOfR {tr : TA} (h : tr σ H (ListOf K Q)) : tCB (rListOf K) tr σ H Q := h
def CatL (Q : VK) (x y : V) (H : Hp) : Prop := ∃ l b xs zs, x = .ref l ∧ y = .ref b ∧ H l = some (.lst xs) ∧ H b = some (.lst zs) ∧ xs.length + zs.length ≤ sizeLine ∧ ∀ p, H p = none → Q (.ref p) (upd H p (.lst (xs ++ zs)))
theorem catI (h : CatL Q x y H) : rCat x y H Q := h
theorem cat {a b : Addr} {xs zs : List V} (h1 : H a = some (.lst xs)) (h2 : H b = some (.lst zs)) (s : xs.length + zs.length ≤ 100000) (h : ∀ p H', H p = none → Same H H' → H' p = some (.lst (xs ++ zs)) → Q (.ref p) H') : CatL Q (.ref a) (.ref b) H := ⟨a, b, xs, zs, rfl, rfl, h1, h2, sz s, fun p np => h p _ np (same_new np) upd_same⟩
theorem v16 {a0 a1 a2 a3 a4 a5 a6 a7 a8 a9 a10 a11 a12 a13 a14 a15 : Option V} (h : Q v H) : tVar 16 (a0 :: a1 :: a2 :: a3 :: a4 :: a5 :: a6 :: a7 :: a8 :: a9 :: a10 :: a11 :: a12 :: a13 :: a14 :: a15 :: some v :: r) H Q := ⟨v, rfl, h⟩
theorem n16 {a0 a1 a2 a3 a4 a5 a6 a7 a8 a9 a10 a11 a12 a13 a14 a15 : Option V} {Q : L2.St → Hp → Prop} (h : Q (a0 :: a1 :: a2 :: a3 :: a4 :: a5 :: a6 :: a7 :: a8 :: a9 :: a10 :: a11 :: a12 :: a13 :: a14 :: a15 :: some v :: r) H) : gName 16 v (a0 :: a1 :: a2 :: a3 :: a4 :: a5 :: a6 :: a7 :: a8 :: a9 :: a10 :: a11 :: a12 :: a13 :: a14 :: a15 :: a :: r) H Q := h
theorem g16 {a0 a1 a2 a3 a4 a5 a6 a7 a8 a9 a10 a11 a12 a13 a14 a15 : Option V} {ti : TIp} (h : te (a0 :: a1 :: a2 :: a3 :: a4 :: a5 :: a6 :: a7 :: a8 :: a9 :: a10 :: a11 :: a12 :: a13 :: a14 :: a15 :: some x :: r) H fun y H1 => ti x y H1 fun z H2 => D.nx (a0 :: a1 :: a2 :: a3 :: a4 :: a5 :: a6 :: a7 :: a8 :: a9 :: a10 :: a11 :: a12 :: a13 :: a14 :: a15 :: some z :: r) H2) : tAug 16 te ti D (a0 :: a1 :: a2 :: a3 :: a4 :: a5 :: a6 :: a7 :: a8 :: a9 :: a10 :: a11 :: a12 :: a13 :: a14 :: a15 :: some x :: r) H := ⟨x, rfl, h⟩
theorem v17 {a0 a1 a2 a3 a4 a5 a6 a7 a8 a9 a10 a11 a12 a13 a14 a15 a16 : Option V} (h : Q v H) : tVar 17 (a0 :: a1 :: a2 :: a3 :: a4 :: a5 :: a6 :: a7 :: a8 :: a9 :: a10 :: a11 :: a12 :: a13 :: a14 :: a15 :: a16 :: some v :: r) H Q := ⟨v, rfl, h⟩
theorem n17 {a0 a1 a2 a3 a4 a5 a6 a7 a8 a9 a10 a11 a12 a13 a14 a15 a16 : Option V} {Q : L2.St → Hp → Prop} (h : Q (a0 :: a1 :: a2 :: a3 :: a4 :: a5 :: a6 :: a7 :: a8 :: a9 :: a10 :: a11 :: a12 :: a13 :: a14 :: a15 :: a16 :: some v :: r) H) : gName 17 v (a0 :: a1 :: a2 :: a3 :: a4 :: a5 :: a6 :: a7 :: a8 :: a9 :: a10 :: a11 :: a12 :: a13 :: a14 :: a15 :: a16 :: a :: r) H Q := h
theorem g17 {a0 a1 a2 a3 a4 a5 a6 a7 a8 a9 a10 a11 a12 a13 a14 a15 a16 : Option V} {ti : TIp} (h : te (a0 :: a1 :: a2 :: a3 :: a4 :: a5 :: a6 :: a7 :: a8 :: a9 :: a10 :: a11 :: a12 :: a13 :: a14 :: a15 :: a16 :: some x :: r) H fun y H1 => ti x y H1 fun z H2 => D.nx (a0 :: a1 :: a2 :: a3 :: a4 :: a5 :: a6 :: a7 :: a8 :: a9 :: a10 :: a11 :: a12 :: a13 :: a14 :: a15 :: a16 :: some z :: r) H2) : tAug 17 te ti D (a0 :: a1 :: a2 :: a3 :: a4 :: a5 :: a6 :: a7 :: a8 :: a9 :: a10 :: a11 :: a12 :: a13 :: a14 :: a15 :: a16 :: some x :: r) H := ⟨x, rfl, h⟩
theorem v18 {a0 a1 a2 a3 a4 a5 a6 a7 a8 a9 a10 a11 a12 a13 a14 a15 a16 a17 : Option V} (h : Q v H) : tVar 18 (a0 :: a1 :: a2 :: a3 :: a4 :: a5 :: a6 :: a7 :: a8 :: a9 :: a10 :: a11 :: a12 :: a13 :: a14 :: a15 :: a16 :: a17 :: some v :: r) H Q := ⟨v, rfl, h⟩
theorem n18 {a0 a1 a2 a3 a4 a5 a6 a7 a8 a9 a10 a11 a12 a13 a14 a15 a16 a17 : Option V} {Q : L2.St → Hp → Prop} (h : Q (a0 :: a1 :: a2 :: a3 :: a4 :: a5 :: a6 :: a7 :: a8 :: a9 :: a10 :: a11 :: a12 :: a13 :: a14 :: a15 :: a16 :: a17 :: some v :: r) H) : gName 18 v (a0 :: a1 :: a2 :: a3 :: a4 :: a5 :: a6 :: a7 :: a8 :: a9 :: a10 :: a11 :: a12 :: a13 :: a14 :: a15 :: a16 :: a17 :: a :: r) H Q := h
theorem g18 {a0 a1 a2 a3 a4 a5 a6 a7 a8 a9 a10 a11 a12 a13 a14 a15 a16 a17 : Option V} {ti : TIp} (h : te (a0 :: a1 :: a2 :: a3 :: a4 :: a5 :: a6 :: a7 :: a8 :: a9 :: a10 :: a11 :: a12 :: a13 :: a14 :: a15 :: a16 :: a17 :: some x :: r) H fun y H1 => ti x y H1 fun z H2 => D.nx (a0 :: a1 :: a2 :: a3 :: a4 :: a5 :: a6 :: a7 :: a8 :: a9 :: a10 :: a11 :: a12 :: a13 :: a14 :: a15 :: a16 :: a17 :: some z :: r) H2) : tAug 18 te ti D (a0 :: a1 :: a2 :: a3 :: a4 :: a5 :: a6 :: a7 :: a8 :: a9 :: a10 :: a11 :: a12 :: a13 :: a14 :: a15 :: a16 :: a17 :: some x :: r) H := ⟨x, rfl, h⟩
theorem v19 {a0 a1 a2 a3 a4 a5 a6 a7 a8 a9 a10 a11 a12 a13 a14 a15 a16 a17 a18 : Option V} (h : Q v H) : tVar 19 (a0 :: a1 :: a2 :: a3 :: a4 :: a5 :: a6 :: a7 :: a8 :: a9 :: a10 :: a11 :: a12 :: a13 :: a14 :: a15 :: a16 :: a17 :: a18 :: some v :: r) H Q := ⟨v, rfl, h⟩
theorem n19 {a0 a1 a2 a3 a4 a5 a6 a7 a8 a9 a10 a11 a12 a13 a14 a15 a16 a17 a18 : Option V} {Q : L2.St → Hp → Prop} (h : Q (a0 :: a1 :: a2 :: a3 :: a4 :: a5 :: a6 :: a7 :: a8 :: a9 :: a10 :: a11 :: a12 :: a13 :: a14 :: a15 :: a16 :: a17 :: a18 :: some v :: r) H) : gName 19 v (a0 :: a1 :: a2 :: a3 :: a4 :: a5 :: a6 :: a7 :: a8 :: a9 :: a10 :: a11 :: a12 :: a13 :: a14 :: a15 :: a16 :: a17 :: a18 :: a :: r) H Q := h
theorem g19 {a0 a1 a2 a3 a4 a5 a6 a7 a8 a9 a10 a11 a12 a13 a14 a15 a16 a17 a18 : Option V} {ti : TIp} (h : te (a0 :: a1 :: a2 :: a3 :: a4 :: a5 :: a6 :: a7 :: a8 :: a9 :: a10 :: a11 :: a12 :: a13 :: a14 :: a15 :: a16 :: a17 :: a18 :: some x :: r) H fun y H1 => ti x y H1 fun z H2 => D.nx (a0 :: a1 :: a2 :: a3 :: a4 :: a5 :: a6 :: a7 :: a8 :: a9 :: a10 :: a11 :: a12 :: a13 :: a14 :: a15 :: a16 :: a17 :: a18 :: some z :: r) H2) : tAug 19 te ti D (a0 :: a1 :: a2 :: a3 :: a4 :: a5 :: a6 :: a7 :: a8 :: a9 :: a10 :: a11 :: a12 :: a13 :: a14 :: a15 :: a16 :: a17 :: a18 :: some x :: r) H := ⟨x, rfl, h⟩
theorem v20 {a0 a1 a2 a3 a4 a5 a6 a7 a8 a9 a10 a11 a12 a13 a14 a15 a16 a17 a18 a19 : Option V} (h : Q v H) : tVar 20 (a0 :: a1 :: a2 :: a3 :: a4 :: a5 :: a6 :: a7 :: a8 :: a9 :: a10 :: a11 :: a12 :: a13 :: a14 :: a15 :: a16 :: a17 :: a18 :: a19 :: some v :: r) H Q := ⟨v, rfl, h⟩
theorem n20 {a0 a1 a2 a3 a4 a5 a6 a7 a8 a9 a10 a11 a12 a13 a14 a15 a16 a17 a18 a19 : Option V} {Q : L2.St → Hp → Prop} (h : Q (a0 :: a1 :: a2 :: a3 :: a4 :: a5 :: a6 :: a7 :: a8 :: a9 :: a10 :: a11 :: a12 :: a13 :: a14 :: a15 :: a16 :: a17 :: a18 :: a19 :: some v :: r) H) : gName 20 v (a0 :: a1 :: a2 :: a3 :: a4 :: a5 :: a6 :: a7 :: a8 :: a9 :: a10 :: a11 :: a12 :: a13 :: a14 :: a15 :: a16 :: a17 :: a18 :: a19 :: a :: r) H Q := h
theorem g20 {a0 a1 a2 a3 a4 a5 a6 a7 a8 a9 a10 a11 a12 a13 a14 a15 a16 a17 a18 a19 : Option V} {ti : TIp} (h : te (a0 :: a1 :: a2 :: a3 :: a4 :: a5 :: a6 :: a7 :: a8 :: a9 :: a10 :: a11 :: a12 :: a13 :: a14 :: a15 :: a16 :: a17 :: a18 :: a19 :: some x :: r) H fun y H1 => ti x y H1 fun z H2 => D.nx (a0 :: a1 :: a2 :: a3 :: a4 :: a5 :: a6 :: a7 :: a8 :: a9 :: a10 :: a11 :: a12 :: a13 :: a14 :: a15 :: a16 :: a17 :: a18 :: a19 :: some z :: r) H2) : tAug 20 te ti D (a0 :: a1 :: a2 :: a3 :: a4 :: a5 :: a6 :: a7 :: a8 :: a9 :: a10 :: a11 :: a12 :: a13 :: a14 :: a15 :: a16 :: a17 :: a18 :: a19 :: some x :: r) H := ⟨x, rfl, h⟩
theorem v21 {a0 a1 a2 a3 a4 a5 a6 a7 a8 a9 a10 a11 a12 a13 a14 a15 a16 a17 a18 a19 a20 : Option V} (h : Q v H) : tVar 21 (a0 :: a1 :: a2 :: a3 :: a4 :: a5 :: a6 :: a7 :: a8 :: a9 :: a10 :: a11 :: a12 :: a13 :: a14 :: a15 :: a16 :: a17 :: a18 :: a19 :: a20 :: some v :: r) H Q := ⟨v, rfl, h⟩
theorem n21 {a0 a1 a2 a3 a4 a5 a6 a7 a8 a9 a10 a11 a12 a13 a14 a15 a16 a17 a18 a19 a20 : Option V} {Q : L2.St → Hp → Prop} (h : Q (a0 :: a1 :: a2 :: a3 :: a4 :: a5 :: a6 :: a7 :: a8 :: a9 :: a10 :: a11 :: a12 :: a13 :: a14 :: a15 :: a16 :: a17 :: a18 :: a19 :: a20 :: some v :: r) H) : gName 21 v (a0 :: a1 :: a2 :: a3 :: a4 :: a5 :: a6 :: a7 :: a8 :: a9 :: a10 :: a11 :: a12 :: a13 :: a14 :: a15 :: a16 :: a17 :: a18 :: a19 :: a20 :: a :: r) H Q := h
theorem g21 {a0 a1 a2 a3 a4 a5 a6 a7 a8 a9 a10 a11 a12 a13 a14 a15 a16 a17 a18 a19 a20 : Option V} {ti : TIp} (h : te (a0 :: a1 :: a2 :: a3 :: a4 :: a5 :: a6 :: a7 :: a8 :: a9 :: a10 :: a11 :: a12 :: a13 :: a14 :: a15 :: a16 :: a17 :: a18 :: a19 :: a20 :: some x :: r) H fun y H1 => ti x y H1 fun z H2 => D.nx (a0 :: a1 :: a2 :: a3 :: a4 :: a5 :: a6 :: a7 :: a8 :: a9 :: a10 :: a11 :: a12 :: a13 :: a14 :: a15 :: a16 :: a17 :: a18 :: a19 :: a20 :: some z :: r) H2) : tAug 21 te ti D (a0 :: a1 :: a2 :: a3 :: a4 :: a5 :: a6 :: a7 :: a8 :: a9 :: a10 :: a11 :: a12 :: a13 :: a14 :: a15 :: a16 :: a17 :: a18 :: a19 :: a20 :: some x :: r) H := ⟨x, rfl, h⟩
theorem v22 {a0 a1 a2 a3 a4 a5 a6 a7 a8 a9 a10 a11 a12 a13 a14 a15 a16 a17 a18 a19 a20 a21 : Option V} (h : Q v H) : tVar 22 (a0 :: a1 :: a2 :: a3 :: a4 :: a5 :: a6 :: a7 :: a8 :: a9 :: a10 :: a11 :: a12 :: a13 :: a14 :: a15 :: a16 :: a17 :: a18 :: a19 :: a20 :: a21 :: some v :: r) H Q := ⟨v, rfl, h⟩
theorem n22 {a0 a1 a2 a3 a4 a5 a6 a7 a8 a9 a10 a11 a12 a13 a14 a15 a16 a17 a18 a19 a20 a21 : Option V} {Q : L2.St → Hp → Prop} (h : Q (a0 :: a1 :: a2 :: a3 :: a4 :: a5 :: a6 :: a7 :: a8 :: a9 :: a10 :: a11 :: a12 :: a13 :: a14 :: a15 :: a16 :: a17 :: a18 :: a19 :: a20 :: a21 :: some v :: r) H) : gName 22 v (a0 :: a1 :: a2 :: a3 :: a4 :: a5 :: a6 :: a7 :: a8 :: a9 :: a10 :: a11 :: a12 :: a13 :: a14 :: a15 :: a16 :: a17 :: a18 :: a19 :: a20 :: a21 :: a :: r) H Q := h
theorem g22 {a0 a1 a2 a3 a4 a5 a6 a7 a8 a9 a10 a11 a12 a13 a14 a15 a16 a17 a18 a19 a20 a21 : Option V} {ti : TIp} (h : te (a0 :: a1 :: a2 :: a3 :: a4 :: a5 :: a6 :: a7 :: a8 :: a9 :: a10 :: a11 :: a12 :: a13 :: a14 :: a15 :: a16 :: a17 :: a18 :: a19 :: a20 :: a21 :: some x :: r) H fun y H1 => ti x y H1 fun z H2 => D.nx (a0 :: a1 :: a2 :: a3 :: a4 :: a5 :: a6 :: a7 :: a8 :: a9 :: a10 :: a11 :: a12 :: a13 :: a14 :: a15 :: a16 :: a17 :: a18 :: a19 :: a20 :: a21 :: some z :: r) H2) : tAug 22 te ti D (a0 :: a1 :: a2 :: a3 :: a4 :: a5 :: a6 :: a7 :: a8 :: a9 :: a10 :: a11 :: a12 :: a13 :: a14 :: a15 :: a16 :: a17 :: a18 :: a19 :: a20 :: a21 :: some x :: r) H := ⟨x, rfl, h⟩
theorem v23 {a0 a1 a2 a3 a4 a5 a6 a7 a8 a9 a10 a11 a12 a13 a14 a15 a16 a17 a18 a19 a20 a21 a22 : Option V} (h : Q v H) : tVar 23 (a0 :: a1 :: a2 :: a3 :: a4 :: a5 :: a6 :: a7 :: a8 :: a9 :: a10 :: a11 :: a12 :: a13 :: a14 :: a15 :: a16 :: a17 :: a18 :: a19 :: a20 :: a21 :: a22 :: some v :: r) H Q := ⟨v, rfl, h⟩
theorem n23 {a0 a1 a2 a3 a4 a5 a6 a7 a8 a9 a10 a11 a12 a13 a14 a15 a16 a17 a18 a19 a20 a21 a22 : Option V} {Q : L2.St → Hp → Prop} (h : Q (a0 :: a1 :: a2 :: a3 :: a4 :: a5 :: a6 :: a7 :: a8 :: a9 :: a10 :: a11 :: a12 :: a13 :: a14 :: a15 :: a16 :: a17 :: a18 :: a19 :: a20 :: a21 :: a22 :: some v :: r) H) : gName 23 v (a0 :: a1 :: a2 :: a3 :: a4 :: a5 :: a6 :: a7 :: a8 :: a9 :: a10 :: a11 :: a12 :: a13 :: a14 :: a15 :: a16 :: a17 :: a18 :: a19 :: a20 :: a21 :: a22 :: a :: r) H Q := h
theorem g23 {a0 a1 a2 a3 a4 a5 a6 a7 a8 a9 a10 a11 a12 a13 a14 a15 a16 a17 a18 a19 a20 a21 a22 : Option V} {ti : TIp} (h : te (a0 :: a1 :: a2 :: a3 :: a4 :: a5 :: a6 :: a7 :: a8 :: a9 :: a10 :: a11 :: a12 :: a13 :: a14 :: a15 :: a16 :: a17 :: a18 :: a19 :: a20 :: a21 :: a22 :: some x :: r) H fun y H1 => ti x y H1 fun z H2 => D.nx (a0 :: a1 :: a2 :: a3 :: a4 :: a5 :: a6 :: a7 :: a8 :: a9 :: a10 :: a11 :: a12 :: a13 :: a14 :: a15 :: a16 :: a17 :: a18 :: a19 :: a20 :: a21 :: a22 :: some z :: r) H2) : tAug 23 te ti D (a0 :: a1 :: a2 :: a3 :: a4 :: a5 :: a6 :: a7 :: a8 :: a9 :: a10 :: a11 :: a12 :: a13 :: a14 :: a15 :: a16 :: a17 :: a18 :: a19 :: a20 :: a21 :: a22 :: some x :: r) H := ⟨x, rfl, h⟩
theorem v24 {a0 a1 a2 a3 a4 a5 a6 a7 a8 a9 a10 a11 a12 a13 a14 a15 a16 a17 a18 a19 a20 a21 a22 a23 : Option V} (h : Q v H) : tVar 24 (a0 :: a1 :: a2 :: a3 :: a4 :: a5 :: a6 :: a7 :: a8 :: a9 :: a10 :: a11 :: a12 :: a13 :: a14 :: a15 :: a16 :: a17 :: a18 :: a19 :: a20 :: a21 :: a22 :: a23 :: some v :: r) H Q := ⟨v, rfl, h⟩
theorem n24 {a0 a1 a2 a3 a4 a5 a6 a7 a8 a9 a10 a11 a12 a13 a14 a15 a16 a17 a18 a19 a20 a21 a22 a23 : Option V} {Q : L2.St → Hp → Prop} (h : Q (a0 :: a1 :: a2 :: a3 :: a4 :: a5 :: a6 :: a7 :: a8 :: a9 :: a10 :: a11 :: a12 :: a13 :: a14 :: a15 :: a16 :: a17 :: a18 :: a19 :: a20 :: a21 :: a22 :: a23 :: some v :: r) H) : gName 24 v (a0 :: a1 :: a2 :: a3 :: a4 :: a5 :: a6 :: a7 :: a8 :: a9 :: a10 :: a11 :: a12 :: a13 :: a14 :: a15 :: a16 :: a17 :: a18 :: a19 :: a20 :: a21 :: a22 :: a23 :: a :: r) H Q := h
theorem g24 {a0 a1 a2 a3 a4 a5 a6 a7 a8 a9 a10 a11 a12 a13 a14 a15 a16 a17 a18 a19 a20 a21 a22 a23 : Option V} {ti : TIp} (h : te (a0 :: a1 :: a2 :: a3 :: a4 :: a5 :: a6 :: a7 :: a8 :: a9 :: a10 :: a11 :: a12 :: a13 :: a14 :: a15 :: a16 :: a17 :: a18 :: a19 :: a20 :: a21 :: a22 :: a23 :: some x :: r) H fun y H1 => ti x y H1 fun z H2 => D.nx (a0 :: a1 :: a2 :: a3 :: a4 :: a5 :: a6 :: a7 :: a8 :: a9 :: a10 :: a11 :: a12 :: a13 :: a14 :: a15 :: a16 :: a17 :: a18 :: a19 :: a20 :: a21 :: a22 :: a23 :: some z :: r) H2) : tAug 24 te ti D (a0 :: a1 :: a2 :: a3 :: a4 :: a5 :: a6 :: a7 :: a8 :: a9 :: a10 :: a11 :: a12 :: a13 :: a14 :: a15 :: a16 :: a17 :: a18 :: a19 :: a20 :: a21 :: a22 :: a23 :: some x :: r) H := ⟨x, rfl, h⟩
theorem v25 {a0 a1 a2 a3 a4 a5 a6 a7 a8 a9 a10 a11 a12 a13 a14 a15 a16 a17 a18 a19 a20 a21 a22 a23 a24 : Option V} (h : Q v H) : tVar 25 (a0 :: a1 :: a2 :: a3 :: a4 :: a5 :: a6 :: a7 :: a8 :: a9 :: a10 :: a11 :: a12 :: a13 :: a14 :: a15 :: a16 :: a17 :: a18 :: a19 :: a20 :: a21 :: a22 :: a23 :: a24 :: some v :: r) H Q := ⟨v, rfl, h⟩
theorem n25 {a0 a1 a2 a3 a4 a5 a6 a7 a8 a9 a10 a11 a12 a13 a14 a15 a16 a17 a18 a19 a20 a21 a22 a23 a24 : Option V} {Q : L2.St → Hp → Prop} (h : Q (a0 :: a1 :: a2 :: a3 :: a4 :: a5 :: a6 :: a7 :: a8 :: a9 :: a10 :: a11 :: a12 :: a13 :: a14 :: a15 :: a16 :: a17 :: a18 :: a19 :: a20 :: a21 :: a22 :: a23 :: a24 :: some v :: r) H) : gName 25 v (a0 :: a1 :: a2 :: a3 :: a4 :: a5 :: a6 :: a7 :: a8 :: a9 :: a10 :: a11 :: a12 :: a13 :: a14 :: a15 :: a16 :: a17 :: a18 :: a19 :: a20 :: a21 :: a22 :: a23 :: a24 :: a :: r) H Q := h
theorem g25 {a0 a1 a2 a3 a4 a5 a6 a7 a8 a9 a10 a11 a12 a13 a14 a15 a16 a17 a18 a19 a20 a21 a22 a23 a24 : Option V} {ti : TIp} (h : te (a0 :: a1 :: a2 :: a3 :: a4 :: a5 :: a6 :: a7 :: a8 :: a9 :: a10 :: a11 :: a12 :: a13 :: a14 :: a15 :: a16 :: a17 :: a18 :: a19 :: a20 :: a21 :: a22 :: a23 :: a24 :: some x :: r) H fun y H1 => ti x y H1 fun z H2 => D.nx (a0 :: a1 :: a2 :: a3 :: a4 :: a5 :: a6 :: a7 :: a8 :: a9 :: a10 :: a11 :: a12 :: a13 :: a14 :: a15 :: a16 :: a17 :: a18 :: a19 :: a20 :: a21 :: a22 :: a23 :: a24 :: some z :: r) H2) : tAug 25 te ti D (a0 :: a1 :: a2 :: a3 :: a4 :: a5 :: a6 :: a7 :: a8 :: a9 :: a10 :: a11 :: a12 :: a13 :: a14 :: a15 :: a16 :: a17 :: a18 :: a19 :: a20 :: a21 :: a22 :: a23 :: a24 :: some x :: r) H := ⟨x, rfl, h⟩
theorem v26 {a0 a1 a2 a3 a4 a5 a6 a7 a8 a9 a10 a11 a12 a13 a14 a15 a16 a17 a18 a19 a20 a21 a22 a23 a24 a25 : Option V} (h : Q v H) : tVar 26 (a0 :: a1 :: a2 :: a3 :: a4 :: a5 :: a6 :: a7 :: a8 :: a9 :: a10 :: a11 :: a12 :: a13 :: a14 :: a15 :: a16 :: a17 :: a18 :: a19 :: a20 :: a21 :: a22 :: a23 :: a24 :: a25 :: some v :: r) H Q := ⟨v, rfl, h⟩
theorem n26 {a0 a1 a2 a3 a4 a5 a6 a7 a8 a9 a10 a11 a12 a13 a14 a15 a16 a17 a18 a19 a20 a21 a22 a23 a24 a25 : Option V} {Q : L2.St → Hp → Prop} (h : Q (a0 :: a1 :: a2 :: a3 :: a4 :: a5 :: a6 :: a7 :: a8 :: a9 :: a10 :: a11 :: a12 :: a13 :: a14 :: a15 :: a16 :: a17 :: a18 :: a19 :: a20 :: a21 :: a22 :: a23 :: a24 :: a25 :: some v :: r) H) : gName 26 v (a0 :: a1 :: a2 :: a3 :: a4 :: a5 :: a6 :: a7 :: a8 :: a9 :: a10 :: a11 :: a12 :: a13 :: a14 :: a15 :: a16 :: a17 :: a18 :: a19 :: a20 :: a21 :: a22 :: a23 :: a24 :: a25 :: a :: r) H Q := h
theorem g26 {a0 a1 a2 a3 a4 a5 a6 a7 a8 a9 a10 a11 a12 a13 a14 a15 a16 a17 a18 a19 a20 a21 a22 a23 a24 a25 : Option V} {ti : TIp} (h : te (a0 :: a1 :: a2 :: a3 :: a4 :: a5 :: a6 :: a7 :: a8 :: a9 :: a10 :: a11 :: a12 :: a13 :: a14 :: a15 :: a16 :: a17 :: a18 :: a19 :: a20 :: a21 :: a22 :: a23 :: a24 :: a25 :: some x :: r) H fun y H1 => ti x y H1 fun z H2 => D.nx (a0 :: a1 :: a2 :: a3 :: a4 :: a5 :: a6 :: a7 :: a8 :: a9 :: a10 :: a11 :: a12 :: a13 :: a14 :: a15 :: a16 :: a17 :: a18 :: a19 :: a20 :: a21 :: a22 :: a23 :: a24 :: a25 :: some z :: r) H2) : tAug 26 te ti D (a0 :: a1 :: a2 :: a3 :: a4 :: a5 :: a6 :: a7 :: a8 :: a9 :: a10 :: a11 :: a12 :: a13 :: a14 :: a15 :: a16 :: a17 :: a18 :: a19 :: a20 :: a21 :: a22 :: a23 :: a24 :: a25 :: some x :: r) H := ⟨x, rfl, h⟩
theorem v27 {a0 a1 a2 a3 a4 a5 a6 a7 a8 a9 a10 a11 a12 a13 a14 a15 a16 a17 a18 a19 a20 a21 a22 a23 a24 a25 a26 : Option V} (h : Q v H) : tVar 27 (a0 :: a1 :: a2 :: a3 :: a4 :: a5 :: a6 :: a7 :: a8 :: a9 :: a10 :: a11 :: a12 :: a13 :: a14 :: a15 :: a16 :: a17 :: a18 :: a19 :: a20 :: a21 :: a22 :: a23 :: a24 :: a25 :: a26 :: some v :: r) H Q := ⟨v, rfl, h⟩
theorem n27 {a0 a1 a2 a3 a4 a5 a6 a7 a8 a9 a10 a11 a12 a13 a14 a15 a16 a17 a18 a19 a20 a21 a22 a23 a24 a25 a26 : Option V} {Q : L2.St → Hp → Prop} (h : Q (a0 :: a1 :: a2 :: a3 :: a4 :: a5 :: a6 :: a7 :: a8 :: a9 :: a10 :: a11 :: a12 :: a13 :: a14 :: a15 :: a16 :: a17 :: a18 :: a19 :: a20 :: a21 :: a22 :: a23 :: a24 :: a25 :: a26 :: some v :: r) H) : gName 27 v (a0 :: a1 :: a2 :: a3 :: a4 :: a5 :: a6 :: a7 :: a8 :: a9 :: a10 :: a11 :: a12 :: a13 :: a14 :: a15 :: a16 :: a17 :: a18 :: a19 :: a20 :: a21 :: a22 :: a23 :: a24 :: a25 :: a26 :: a :: r) H Q := h
theorem g27 {a0 a1 a2 a3 a4 a5 a6 a7 a8 a9 a10 a11 a12 a13 a14 a15 a16 a17 a18 a19 a20 a21 a22 a23 a24 a25 a26 : Option V} {ti : TIp} (h : te (a0 :: a1 :: a2 :: a3 :: a4 :: a5 :: a6 :: a7 :: a8 :: a9 :: a10 :: a11 :: a12 :: a13 :: a14 :: a15 :: a16 :: a17 :: a18 :: a19 :: a20 :: a21 :: a22 :: a23 :: a24 :: a25 :: a26 :: some x :: r) H fun y H1 => ti x y H1 fun z H2 => D.nx (a0 :: a1 :: a2 :: a3 :: a4 :: a5 :: a6 :: a7 :: a8 :: a9 :: a10 :: a11 :: a12 :: a13 :: a14 :: a15 :: a16 :: a17 :: a18 :: a19 :: a20 :: a21 :: a22 :: a23 :: a24 :: a25 :: a26 :: some z :: r) H2) : tAug 27 te ti D (a0 :: a1 :: a2 :: a3 :: a4 :: a5 :: a6 :: a7 :: a8 :: a9 :: a10 :: a11 :: a12 :: a13 :: a14 :: a15 :: a16 :: a17 :: a18 :: a19 :: a20 :: a21 :: a22 :: a23 :: a24 :: a25 :: a26 :: some x :: r) H := ⟨x, rfl, h⟩
end Rd

set_option Elab.async false
set_option linter.all false
set_option maxRecDepth 100000
set_option maxHeartbeats 4000000


namespace Mine
open PySem PySem.Spec PyProof.Rows L2
/-! ### the text -/
def topS (i : Nat) : Stmt := PySem.Challenge.pw_deadbeat_k04_errors_of_tokens.main.body.getD i (.Pass ⟨0, 0, 0, 0⟩)
abbrev s_decimal : Stmt := topS 4
theorem sc_decimal : FnScope ["n", "pieces", "rest", "low"] ["n"] (defScope s_decimal) := ⟨rfl, rfl, rfl, by decide +kernel, rfl, by decide +kernel, by decide +kernel⟩
abbrev s_decimal_number : Stmt := topS 26
theorem sc_decimal_number : FnScope ["run", "value"] ["run"] (defScope s_decimal_number) := ⟨rfl, rfl, rfl, by decide +kernel, rfl, by decide +kernel, by decide +kernel⟩
abbrev s__law_state : Stmt := topS 31
theorem sc__law_state : FnScope ["script", "seed", "cell"] ["script"] (defScope s__law_state) := ⟨rfl, rfl, rfl, by decide +kernel, rfl, by decide +kernel, by decide +kernel⟩
abbrev s__law_draw : Stmt := topS 32
theorem sc__law_draw : FnScope ["state", "many", "cells", "value", "mixed"] ["state", "many"] (defScope s__law_draw) := ⟨rfl, rfl, rfl, by decide +kernel, rfl, by decide +kernel, by decide +kernel⟩
abbrev s__in_run : Stmt := topS 23
theorem sc__in_run : FnScope ["character"] ["character"] (defScope s__in_run) := ⟨rfl, rfl, rfl, by decide +kernel, rfl, by decide +kernel, by decide +kernel⟩
abbrev s__run : Stmt := topS 22
theorem sc__run : FnScope ["text", "at", "end"] ["text", "at"] (defScope s__run) := ⟨rfl, rfl, rfl, by decide +kernel, rfl, by decide +kernel, by decide +kernel⟩
abbrev s__comment_end : Stmt := topS 21
theorem sc__comment_end : FnScope ["text", "at", "end"] ["text", "at"] (defScope s__comment_end) := ⟨rfl, rfl, rfl, by decide +kernel, rfl, by decide +kernel, by decide +kernel⟩
abbrev s__longest_sign : Stmt := topS 29
theorem sc__longest_sign : FnScope ["text", "at", "sign"] ["text", "at"] (defScope s__longest_sign) := ⟨rfl, rfl, rfl, by decide +kernel, rfl, by decide +kernel, by decide +kernel⟩
abbrev s__consists_of : Stmt := topS 28
theorem sc__consists_of : FnScope ["run", "allowed", "character"] ["run", "allowed"] (defScope s__consists_of) := ⟨rfl, rfl, rfl, by decide +kernel, rfl, by decide +kernel, by decide +kernel⟩
abbrev s__hex_number : Stmt := topS 27
theorem sc__hex_number : FnScope ["digits"] ["digits"] (defScope s__hex_number) := ⟨rfl, rfl, rfl, by decide +kernel, rfl, by decide +kernel, by decide +kernel⟩
abbrev s__number : Stmt := topS 25
theorem sc__number : FnScope ["run"] ["run"] (defScope s__number) := ⟨rfl, rfl, rfl, by decide +kernel, rfl, by decide +kernel, by decide +kernel⟩
abbrev s_is_reserved : Stmt := topS 19
theorem sc_is_reserved : FnScope ["name"] ["name"] (defScope s_is_reserved) := ⟨rfl, rfl, rfl, by decide +kernel, rfl, by decide +kernel, by decide +kernel⟩
abbrev s__run_token : Stmt := topS 24
theorem sc__run_token : FnScope ["run", "line", "value"] ["run", "line"] (defScope s__run_token) := ⟨rfl, rfl, rfl, by decide +kernel, rfl, by decide +kernel, by decide +kernel⟩
abbrev s_tokenize : Stmt := topS 20
theorem sc_tokenize : FnScope ["text", "tokens", "line", "at", "character", "run", "sign"] ["text"] (defScope s_tokenize) := ⟨rfl, rfl, rfl, by decide +kernel, rfl, by decide +kernel, by decide +kernel⟩
abbrev s__law_good : Stmt := topS 33
theorem sc__law_good : FnScope ["state", "pieces"] ["state"] (defScope s__law_good) := ⟨rfl, rfl, rfl, by decide +kernel, rfl, by decide +kernel, by decide +kernel⟩
abbrev s__law_digits : Stmt := topS 34
theorem sc__law_digits : FnScope ["state", "many", "text"] ["state", "many"] (defScope s__law_digits) := ⟨rfl, rfl, rfl, by decide +kernel, rfl, by decide +kernel, by decide +kernel⟩
abbrev s__law_long : Stmt := topS 35
theorem sc__law_long : FnScope ["state"] ["state"] (defScope s__law_long) := ⟨rfl, rfl, rfl, by decide +kernel, rfl, by decide +kernel, by decide +kernel⟩
abbrev s__law_bad : Stmt := topS 36
theorem sc__law_bad : FnScope ["state", "kind", "marks"] ["state"] (defScope s__law_bad) := ⟨rfl, rfl, rfl, by decide +kernel, rfl, by decide +kernel, by decide +kernel⟩
abbrev s__law_near : Stmt := topS 37
theorem sc__law_near : FnScope ["state"] ["state"] (defScope s__law_near) := ⟨rfl, rfl, rfl, by decide +kernel, rfl, by decide +kernel, by decide +kernel⟩
abbrev s__law_lines : Stmt := topS 38
theorem sc__law_lines : FnScope ["state", "text", "k"] ["state"] (defScope s__law_lines) := ⟨rfl, rfl, rfl, by decide +kernel, rfl, by decide +kernel, by decide +kernel⟩
abbrev s__law_outcome : Stmt := topS 39
theorem sc__law_outcome : FnScope ["text", "actual", "e"] ["text"] (defScope s__law_outcome) := ⟨rfl, rfl, rfl, by decide +kernel, rfl, by decide +kernel, by decide +kernel⟩
abbrev s_law : Stmt := topS 40
theorem sc_law : FnScope ["script", "state", "before", "bad", "behind", "line", "char", "outcome"] ["script"] (defScope s_law) := ⟨rfl, rfl, rfl, by decide +kernel, rfl, by decide +kernel, by decide +kernel⟩
def parts_TextError : List Expr := [(PySem.Expr.Constant (PySem.Const.str "line ") 0 ⟨21, 27, 21, 32⟩), (PySem.Expr.FormattedValue (value := (PySem.Expr.Call (func := (PySem.Expr.Name "decimal" ⟨21, 33, 21, 40⟩)) (args := [(PySem.Expr.Name "line" ⟨21, 41, 21, 45⟩)]) (keywords := []) (pos := ⟨21, 33, 21, 46⟩))) (conversion := (-1)) (format_spec := none) (pos := ⟨21, 32, 21, 47⟩)), (PySem.Expr.Constant (PySem.Const.str " of the text") 0 ⟨21, 47, 21, 59⟩)]
theorem fo_TextError : PySem.Errs.FldOk "line" [("decimal", .globalImplicit)] parts_TextError ⟨21, 25, 21, 60⟩ := ⟨rfl, rfl, rfl, rfl, rfl, (by decide), fun _ _ => rfl, fun _ _ => rfl, fun _ => rfl, fun _ _ _ _ _ _ _ _ _ _ _ _ _ => .of_eq rfl⟩
structure Top (P : Program) (K : PySem.W.Frag) (mg : Str → Option Value) where
  C_TextError : Addr
  gc_TextError : mg "TextError" = some (.ref C_TextError)
  C_DeadbeatError : Addr
  gc_DeadbeatError : mg "DeadbeatError" = some (.ref C_DeadbeatError)
  C_CommandError : Addr
  gc_CommandError : mg "CommandError" = some (.ref C_CommandError)
  C_RuleError : Addr
  gc_RuleError : mg "RuleError" = some (.ref C_RuleError)
  f_TextError : Addr
  x_TextError : PySem.Errs.ErrTxt P K mg "TextError" "line" [("decimal", .globalImplicit)] parts_TextError ⟨21, 25, 21, 60⟩ C_TextError f_TextError
  xd_TextError : ExcD K C_TextError
  xf_TextError : XfC K C_TextError
  kt_TextError_DeadbeatError : PySem.W.kitOne K (.ref C_TextError) (.ref C_DeadbeatError) = some true
  kt_TextError_RuleError : PySem.W.kitOne K (.ref C_TextError) (.ref C_RuleError) = some false
  kt_TextError_CommandError : PySem.W.kitOne K (.ref C_TextError) (.ref C_CommandError) = some false
  kt_TextError_ValueError : PySem.W.kitOne K (.ref C_TextError) (.type "ValueError") = some true
  a_decimal : Addr
  d_decimal : FuncData
  F_decimal : Fun K "decimal" "decimal" s_decimal a_decimal d_decimal
  g_decimal : mg "decimal" = some (.ref a_decimal)
  b_decimal : Binds K d_decimal ["n"] []
  a_decimal_number : Addr
  d_decimal_number : FuncData
  F_decimal_number : Fun K "decimal_number" "decimal_number" s_decimal_number a_decimal_number d_decimal_number
  g_decimal_number : mg "decimal_number" = some (.ref a_decimal_number)
  b_decimal_number : Binds K d_decimal_number ["run"] []
  a__law_state : Addr
  d__law_state : FuncData
  F__law_state : Fun K "_law_state" "_law_state" s__law_state a__law_state d__law_state
  g__law_state : mg "_law_state" = some (.ref a__law_state)
  b__law_state : Binds K d__law_state ["script"] []
  a__law_draw : Addr
  d__law_draw : FuncData
  F__law_draw : Fun K "_law_draw" "_law_draw" s__law_draw a__law_draw d__law_draw
  g__law_draw : mg "_law_draw" = some (.ref a__law_draw)
  b__law_draw : Binds K d__law_draw ["state", "many"] []
  a__in_run : Addr
  d__in_run : FuncData
  F__in_run : Fun K "_in_run" "_in_run" s__in_run a__in_run d__in_run
  g__in_run : mg "_in_run" = some (.ref a__in_run)
  b__in_run : Binds K d__in_run ["character"] []
  a__run : Addr
  d__run : FuncData
  F__run : Fun K "_run" "_run" s__run a__run d__run
  g__run : mg "_run" = some (.ref a__run)
  b__run : Binds K d__run ["text", "at"] []
  a__comment_end : Addr
  d__comment_end : FuncData
  F__comment_end : Fun K "_comment_end" "_comment_end" s__comment_end a__comment_end d__comment_end
  g__comment_end : mg "_comment_end" = some (.ref a__comment_end)
  b__comment_end : Binds K d__comment_end ["text", "at"] []
  a__longest_sign : Addr
  d__longest_sign : FuncData
  F__longest_sign : Fun K "_longest_sign" "_longest_sign" s__longest_sign a__longest_sign d__longest_sign
  g__longest_sign : mg "_longest_sign" = some (.ref a__longest_sign)
  b__longest_sign : Binds K d__longest_sign ["text", "at"] []
  a__consists_of : Addr
  d__consists_of : FuncData
  F__consists_of : Fun K "_consists_of" "_consists_of" s__consists_of a__consists_of d__consists_of
  g__consists_of : mg "_consists_of" = some (.ref a__consists_of)
  b__consists_of : Binds K d__consists_of ["run", "allowed"] []
  a__hex_number : Addr
  d__hex_number : FuncData
  F__hex_number : Fun K "_hex_number" "_hex_number" s__hex_number a__hex_number d__hex_number
  g__hex_number : mg "_hex_number" = some (.ref a__hex_number)
  b__hex_number : Binds K d__hex_number ["digits"] []
  a__number : Addr
  d__number : FuncData
  F__number : Fun K "_number" "_number" s__number a__number d__number
  g__number : mg "_number" = some (.ref a__number)
  b__number : Binds K d__number ["run"] []
  a_is_reserved : Addr
  d_is_reserved : FuncData
  F_is_reserved : Fun K "is_reserved" "is_reserved" s_is_reserved a_is_reserved d_is_reserved
  g_is_reserved : mg "is_reserved" = some (.ref a_is_reserved)
  b_is_reserved : Binds K d_is_reserved ["name"] []
  a__run_token : Addr
  d__run_token : FuncData
  F__run_token : Fun K "_run_token" "_run_token" s__run_token a__run_token d__run_token
  g__run_token : mg "_run_token" = some (.ref a__run_token)
  b__run_token : Binds K d__run_token ["run", "line"] []
  a_tokenize : Addr
  d_tokenize : FuncData
  F_tokenize : Fun K "tokenize" "tokenize" s_tokenize a_tokenize d_tokenize
  g_tokenize : mg "tokenize" = some (.ref a_tokenize)
  b_tokenize : Binds K d_tokenize ["text"] []
  a__law_good : Addr
  d__law_good : FuncData
  F__law_good : Fun K "_law_good" "_law_good" s__law_good a__law_good d__law_good
  g__law_good : mg "_law_good" = some (.ref a__law_good)
  b__law_good : Binds K d__law_good ["state"] []
  a__law_digits : Addr
  d__law_digits : FuncData
  F__law_digits : Fun K "_law_digits" "_law_digits" s__law_digits a__law_digits d__law_digits
  g__law_digits : mg "_law_digits" = some (.ref a__law_digits)
  b__law_digits : Binds K d__law_digits ["state", "many"] []
  a__law_long : Addr
  d__law_long : FuncData
  F__law_long : Fun K "_law_long" "_law_long" s__law_long a__law_long d__law_long
  g__law_long : mg "_law_long" = some (.ref a__law_long)
  b__law_long : Binds K d__law_long ["state"] []
  a__law_bad : Addr
  d__law_bad : FuncData
  F__law_bad : Fun K "_law_bad" "_law_bad" s__law_bad a__law_bad d__law_bad
  g__law_bad : mg "_law_bad" = some (.ref a__law_bad)
  b__law_bad : Binds K d__law_bad ["state"] []
  a__law_near : Addr
  d__law_near : FuncData
  F__law_near : Fun K "_law_near" "_law_near" s__law_near a__law_near d__law_near
  g__law_near : mg "_law_near" = some (.ref a__law_near)
  b__law_near : Binds K d__law_near ["state"] []
  a__law_lines : Addr
  d__law_lines : FuncData
  F__law_lines : Fun K "_law_lines" "_law_lines" s__law_lines a__law_lines d__law_lines
  g__law_lines : mg "_law_lines" = some (.ref a__law_lines)
  b__law_lines : Binds K d__law_lines ["state"] []
  a__law_outcome : Addr
  d__law_outcome : FuncData
  F__law_outcome : Fun K "_law_outcome" "_law_outcome" s__law_outcome a__law_outcome d__law_outcome
  g__law_outcome : mg "_law_outcome" = some (.ref a__law_outcome)
  b__law_outcome : Binds K d__law_outcome ["text"] []
  a_law : Addr
  d_law : FuncData
  F_law : Fun K "law" "law" s_law a_law d_law
  g_law : mg "law" = some (.ref a_law)
  b_law : Binds K d_law ["script"] []
  m_str : mg "str" = none
  m_divmod : mg "divmod" = none
  m_abs : mg "abs" = none
  m_int : mg "int" = none
  m_len : mg "len" = none
  m_all : mg "all" = none
  m_range : mg "range" = none
  m_list : mg "list" = none
  m_isinstance : mg "isinstance" = none
  m_bool : mg "bool" = none
  m_ValueError : mg "ValueError" = none
  t_PIECE : Tok
  c_PIECE : mg "PIECE" = some (.int 1000000000000000000 t_PIECE)
  t_PIECE_DIGITS : Tok
  c_PIECE_DIGITS : mg "PIECE_DIGITS" = some (.int 18 t_PIECE_DIGITS)
  t_GREATEST_WORD : Tok
  c_GREATEST_WORD : mg "GREATEST_WORD" = some (.int 4294967295 t_GREATEST_WORD)
  t_DIGITS : Tok
  c_DIGITS : mg "DIGITS" = some (.str "0123456789" t_DIGITS)
  t_LONGEST_DECIMAL : Tok
  c_LONGEST_DECIMAL : mg "LONGEST_DECIMAL" = some (.int 10 t_LONGEST_DECIMAL)
  t_LETTERS : Tok
  c_LETTERS : mg "LETTERS" = some (.str "abcdefghijklmnopqrstuvwxyzABCDEFGHIJKLMNOPQRSTUVWXYZ" t_LETTERS)
  p_SIGNS : Addr
  c_SIGNS : mg "SIGNS" = some (.ref p_SIGNS)
  l_SIGNS : ∃ o, K.lookup p_SIGNS = some o ∧ o.cls = .type "tuple" ∧ o.dict = none
  q_SIGNS : ∀ H, SqT K H p_SIGNS [.str "~<=", .str ":=", .str "<<", .str ">>", .str "<=", .str "~<", .str "==", .str "!=", .str ",", .str ";", .str ".", .str "(", .str ")", .str "[", .str "]", .str "+", .str "-", .str "*", .str "/", .str "&", .str "|", .str "^", .str "~", .str "!", .str "<"]
  t_HEX_DIGITS : Tok
  c_HEX_DIGITS : mg "HEX_DIGITS" = some (.str "0123456789abcdef" t_HEX_DIGITS)
  t_LONGEST_HEX : Tok
  c_LONGEST_HEX : mg "LONGEST_HEX" = some (.int 8 t_LONGEST_HEX)
  p_RESERVED : Addr
  c_RESERVED : mg "RESERVED" = some (.ref p_RESERVED)
  l_RESERVED : ∃ o, K.lookup p_RESERVED = some o ∧ o.cls = .type "tuple" ∧ o.dict = none
  q_RESERVED : ∀ H, SqT K H p_RESERVED [.str "system", .str "in", .str "out", .str "object", .str "cell", .str "operation", .str "give", .str "end", .str "task", .str "every", .str "within", .str "if", .str "else", .str "loop", .str "to", .str "while", .str "read", .str "write", .str "interrupt", .str "calls", .str "mod", .str "and", .str "or"]
  t_LONGEST_NAME : Tok
  c_LONGEST_NAME : mg "LONGEST_NAME" = some (.int 16 t_LONGEST_NAME)
/-- the state of the law's draws: the list at p, the cells' list at c -/
def StOk (H : Hp) (p c : Addr) : Prop := ∃ (ms : List Int) (sd : Int), p ≠ c ∧ H p = some (.lst [.ref c, .int sd]) ∧ H c = some (.lst (ms.map V.int)) ∧ ms.length ≤ 63 ∧ (∀ m ∈ ms, 0 ≤ m) ∧ 0 ≤ sd ∧ sd ≤ 2147483647
/-- all but the state is as it was -/
def Keep (p c : Addr) (H H' : Hp) : Prop := ∀ b o, b ≠ p → b ≠ c → H b = some o → H' b = some o
theorem Keep.refl (p c : Addr) (H : Hp) : Keep p c H H := fun _ _ _ _ h => h
theorem Keep.trans {p c : Addr} {H H1 H2 : Hp} (a : Keep p c H H1) (b : Keep p c H1 H2) : Keep p c H H2 := fun x o h1 h2 h => b x o h1 h2 (a x o h1 h2 h)
theorem Keep.same {p c : Addr} {H H1 : Hp} (a : Same H H1) : Keep p c H H1 := fun x o _ _ h => a x o h
theorem Keep.atp {p c : Addr} {H : Hp} {o : HO} : Keep p c H (upd H p o) := fun x u h1 _ h => by
  rw [upd_ne h1]
  exact h
theorem Keep.atc {p c : Addr} {H : Hp} {o : HO} : Keep p c H (upd H c o) := fun x u _ h2 h => by
  rw [upd_ne h2]
  exact h
theorem StOk.same {H H' : Hp} {p c : Addr} (s : StOk H p c) (e : Same H H') : StOk H' p c := by
  obtain ⟨ms, sd, h1, h2, h3, h⟩ := s
  exact ⟨ms, sd, h1, e _ _ h2, e _ _ h3, h⟩
/-- an address that is free behind was free before -/
theorem Keep.free {p c : Addr} {H H' : Hp} (k : Keep p c H H') (s : StOk H' p c) {l : Addr} (h : H' l = Option.none) : H l = Option.none := by
  obtain ⟨ms, sd, h1, h2, h3, _⟩ := s
  cases e : H l with
  | none => rfl
  | some o =>
    have np : l ≠ p := fun z => by rw [z, h2] at h; cases h
    have nc : l ≠ c := fun z => by rw [z, h3] at h; cases h
    rw [k l o np nc e] at h
    cases h
theorem StOk.ne {H : Hp} {p c l : Addr} (s : StOk H p c) (h : H l = Option.none) : l ≠ p ∧ l ≠ c := by
  obtain ⟨ms, sd, h1, h2, h3, _⟩ := s
  exact ⟨fun z => (by rw [z, h2] at h; cases h), fun z => (by rw [z, h3] at h; cases h)⟩
section
variable {P : Program} {w : World} {K : PySem.W.Frag} {mg : Str → Option Value} {base : Heap}
def sp__law_state (K : PySem.W.Frag) : Sp := fun vs H Q _ => ∃ (a : Addr) (ns : List Int), vs = [.ref a] ∧ SqL K H a (ns.map V.int) ∧ ns.length ≤ 63 ∧ ∀ (H' : Hp) (p c : Addr), Same H H' → H p = none → H c = none → StOk H' p c → Q (.ref p) H'
theorem abs_nn (n : Int) : 0 ≤ (if n < 0 then -n else n) := by
  split <;> omega
def absI (n : Int) : Int := if n < 0 then -n else n
theorem ok__law_state (T : Top P K mg) : FnOk P w K mg base CX0 1 T.a__law_state T.d__law_state ["script"]  (sp__law_state K) := by
  refine T.F__law_state.ok sc__law_state (fun vs H Q E h => ?_) (fun cdv A outer s H vs Q E hr h => ?_)
  · obtain ⟨_, _, rfl, _⟩ := h
    rfl
  · obtain ⟨a, ns, rfl, hS, hlen, q⟩ := h
    refine ⟨_, (pss_cons (ps_set (i := 1) sc__law_state.nd rfl (by first | exact Or.inl rfl | exact Or.inr rfl) pe_int)
  (pss_cons (ps_for PassesOwn.never rfl (pi_list (pv 0)) (pg_name (i := 2) sc__law_state.nd rfl (by first | exact Or.inl rfl | exact Or.inr rfl))
  (pss_one (ps_set (i := 1) sc__law_state.nd rfl (by first | exact Or.inl rfl | exact Or.inr rfl) (pe_op op_mod (pe_callTy call_int1 (by rfl) T.m_int (by decide +kernel) (pa_cons (pe_op op_add (pe_op op_mul (pv 1) pe_int) (pv 2)) pa_nil)) pe_int))))
  (pss_one (ps_ret (pe_lst (pa_cons (pe_lc (own := [("cell", 2)]) (g := gName 2) (tt := tYes) rfl sc__law_state.nd (pi_list (pv 0)) (blkOk_by (N := ["script", "seed", "cell"]) (sc := defScope s__law_state) (by decide +kernel)) (fun _ _ _ _ _ => pg_name (i := 2) sc__law_state.nd rfl (Or.inl rfl)) (fun _ _ _ _ _ => pts_nil) (fun _ _ _ _ _ => (pe_callB call_abs (by rfl) T.m_abs (by decide +kernel) (pa_cons (pv 2) pa_nil)))) (pa_cons (pe_op op_add (pv 1) pe_int) pa_nil))))))), ?_⟩
    refine ⟨_, rfl, a, rfl, ⟨_, hS⟩, for_list (xs := ns.map V.int) (fun i σ H' => ∃ sd y2, σ = [some (.ref a), some (.int sd), y2] ∧ H' = H ∧ 0 ≤ sd ∧ sd < 1000003) ⟨7, none, rfl, rfl, by decide, by decide⟩ (fun i σ H' _ ⟨_, _, _, e, _⟩ => by rw [e]; exact hS) ?_ ?_⟩
    · rintro i x σ H' hi ⟨sd, y2, rfl, rfl, h0, h1⟩
      obtain ⟨n, _, rfl⟩ := List.mem_map.mp (List.mem_of_getElem? hi)
      refine ⟨_, rfl, _, _, rfl, rfl, .inl ⟨by omega, by omega⟩, _, rfl, _, _, rfl, rfl, .inl ⟨_, rfl, _, _, rfl, rfl, (by show (0 : Int) < 1000003; decide), ?_⟩⟩
      exact ⟨_, _, rfl, rfl, Int.emod_nonneg _ (by decide), Int.emod_lt_of_pos _ (by decide)⟩
    · rintro σ H' ⟨sd, y2, rfl, rfl, h0, h1⟩
      refine ⟨_, rfl, a, rfl, ⟨_, hS⟩, fun c hc => ?_⟩
      refine lc_list (xs := ns.map V.int) (fun i H'' => H'' = upd H' c (.lst ((ns.take i).map fun n => V.int (absI n)))) rfl (fun i H'' _ e => ?_) ?_ ?_
      · rw [e]
        exact (same_new hc).seq hS
      · rintro i x H'' hi rfl
        obtain ⟨n, hn, rfl⟩ : ∃ n, ns[i]? = some n ∧ V.int n = x := by
          rw [List.getElem?_map] at hi
          cases e : ns[i]? with
          | none => rw [e] at hi; cases hi
          | some n => rw [e] at hi; exact ⟨n, rfl, Option.some.inj hi⟩
        refine ⟨rfl, ?_⟩
        refine ⟨_, rfl, _, rfl, _, upd_same, ?_, ?_⟩
        · rw [List.length_map, List.length_take]
          exact small1000 (by omega)
        · rw [upd_upd, List.take_add_one, hn, List.map_append]
          rfl
      · rintro H'' rfl
        rw [List.length_map, List.take_length]
        refine ⟨_, rfl, _, _, rfl, rfl, (by show 2 ≤ sizeLine; decide), fun p hp => ?_⟩
        have npc : p ≠ c := fun z => by rw [z, upd_same] at hp; cases hp
        refine q _ p c ((same_new hc).trans (same_new hp)) ((same_new hc).free hp) hc ⟨ns.map absI, sd + 1, npc, upd_same, ?_, ?_, ?_, by omega, by omega⟩
        · rw [upd_ne npc.symm, upd_same, List.map_map]
          rfl
        · rw [List.length_map]
          exact hlen
        · intro m hm
          obtain ⟨n, _, rfl⟩ := List.mem_map.mp hm
          exact abs_nn n
theorem ix0 {n : Nat} (h : 0 < n) : ixN n 0 = some 0 := by
  unfold ixN
  rw [if_pos (by decide), if_pos (by omega)]
  rfl
theorem seq0 {n : Nat} (h : 0 < n) : seqIndex? 0 n = some 0 := by
  unfold seqIndex?
  simp
  omega
def sp__law_draw : Sp := fun vs H Q _ => ∃ (p c : Addr) (many : Int), vs = [.ref p, .int many] ∧ StOk H p c ∧ 0 < many ∧ many ≤ 1000000 ∧ ∀ (v : Int) (H' : Hp), 0 ≤ v → v < many → StOk H' p c → Keep p c H H' → Q (.int v) H'
theorem ok__law_draw (T : Top P K mg) : FnOk P w K mg base CX0 1 T.a__law_draw T.d__law_draw ["state", "many"]  sp__law_draw := by
  refine T.F__law_draw.ok sc__law_draw (fun vs H Q E h => ?_) (fun cdv A outer s H vs Q E hr h => ?_)
  · obtain ⟨_, _, _, rfl, _⟩ := h
    rfl
  · obtain ⟨p, c, many, rfl, hst, hm0, hm1, q⟩ := h
    obtain ⟨ms, sd, npc, hp, hc, hl, hn, s0, s1⟩ := hst
    refine ⟨_, (pss_cons (ps_set (i := 2) sc__law_draw.nd rfl (by first | exact Or.inl rfl | exact Or.inr rfl) (pe_ix ix_list (pv 0) pe_int (fun _ _ => rfl)))
  (pss_cons (ps_while PassesOwn.never (pw_and (pt_cmpR op_gt (pe_callB call_len_seq (by rfl) T.m_len PySem.boot_len (pa_cons (pv 2) pa_nil)) pe_int (nomark _)) (pw_and1 (pt_cmpR op_eq (pe_ix ix_list (pv 2) pe_int (fun _ _ => rfl)) pe_int (nomark _)))).pt
  (pss_one (ps_expr (pe_bm PySem.F.plainAttrs_list PySem.F.slot_list_pop PySem.F.type_list_pop mt_popAt (pv 2) (pa_cons pe_int pa_nil)))))
  (pss_cons (ps_if (pt_cmpR op_gt (pe_callB call_len_seq (by rfl) T.m_len PySem.boot_len (pa_cons (pv 2) pa_nil)) pe_int (nomark _))
  (pss_cons (ps_set (i := 3) sc__law_draw.nd rfl (by first | exact Or.inl rfl | exact Or.inr rfl) (pe_ix ix_list (pv 2) pe_int (fun _ _ => rfl)))
  (pss_cons (ps_asg (pe_op op_fdiv (pv 3) (pv 1)) (pg_sub (pv 2) pe_int set_list))
  (pss_one (ps_ret (pe_op op_mod (pe_callTy call_int1 (by rfl) T.m_int (by decide +kernel) (pa_cons (pv 3) pa_nil)) (pv 1))))))
  pss_nil)
  (pss_cons (ps_set (i := 4) sc__law_draw.nd rfl (by first | exact Or.inl rfl | exact Or.inr rfl) (pe_op op_mod (pe_callTy call_int1 (by rfl) T.m_int (by decide +kernel) (pa_cons (pe_op op_add (pe_op op_mul (pe_ix ix_list (pv 0) pe_int (fun _ _ => rfl)) pe_int) pe_int) pa_nil)) pe_int))
  (pss_cons (ps_asg (pv 4) (pg_sub (pv 0) pe_int set_list))
  (pss_one (ps_ret (pe_op op_mod (pe_callTy call_int1 (by rfl) T.m_int (by decide +kernel) (pa_cons (pe_op op_fdiv (pv 4) pe_int) pa_nil)) (pv 1))))))))), ?_⟩
    refine ⟨_, rfl, p, _, 0, .ref c, rfl, rfl, SqL.of hp, atI_nat (j := 0) rfl, ?_⟩
    -- the noughts ahead are dropped
    refine ⟨fun m σ H' => ∃ ms' : List Int, m = ms'.length ∧ σ = [some (.ref p), some (.int many), some (.ref c), none, none] ∧ H' = upd H c (.lst (ms'.map V.int)) ∧ ms'.length ≤ 63 ∧ ∀ x ∈ ms', 0 ≤ x,
      ⟨ms.length, ms, rfl, rfl, (upd_self hc).symm, hl, hn⟩, ?_⟩
    rintro m σ H' ⟨ms', rfl, rfl, rfl, hl', hn'⟩
    have hc' : (upd H c (.lst (ms'.map V.int))) c = some (.lst (ms'.map V.int)) := upd_same
    have hp' : (upd H c (.lst (ms'.map V.int))) p = some (.lst [.ref c, .int sd]) := by rw [upd_ne npc]; exact hp
    refine ⟨_, rfl, c, _, rfl, .inl (SqL.of hc'), _, _, rfl, rfl, _, rfl, ?_⟩
    have fin : ∀ (x : Int) (ms2 : List Int) (H2 : Hp), 0 ≤ x → ms2.length ≤ 63 → (∀ y ∈ ms2, 0 ≤ y) → H2 = upd H c (.lst (ms2.map V.int)) → Q (.int (x % many)) H2 := fun x ms2 H2 hx hl2 hn2 e => by
      rw [e]
      exact q _ _ (Int.emod_nonneg _ (by omega)) (Int.emod_lt_of_pos _ hm0) ⟨ms2, sd, npc, by rw [upd_ne npc]; exact hp, upd_same, hl2, hn2, s0, s1⟩ Keep.atc
    cases ms' with
    | nil =>
      refine iteF (iteF ?_)
      refine ⟨_, rfl, c, _, rfl, .inl (SqL.of hc'), _, _, rfl, rfl, _, rfl, iteF ?_⟩
      refine ⟨_, rfl, p, _, 1, .int sd, rfl, rfl, SqL.of hp', atI_nat (j := 1) rfl, _, _, rfl, rfl, .inl ⟨by omega, by omega⟩, _, _, rfl, rfl, .inl ⟨_, rfl, _, _, rfl, rfl, (by show (0 : Int) < 2147483647; decide), ?_⟩⟩
      refine ⟨_, rfl, _, rfl, p, _, 1, 1, rfl, rfl, hp', rfl, ?_⟩
      refine ⟨_, rfl, _, _, rfl, rfl, ⟨by decide, by decide⟩, .inl ⟨_, rfl, _, rfl, _, _, rfl, rfl, hm0, ?_⟩⟩
      have m0 := Int.emod_nonneg (sd * 48271 + 12345) (show (2147483647 : Int) ≠ 0 by decide)
      have m1 := Int.emod_lt_of_pos (sd * 48271 + 12345) (show (0 : Int) < 2147483647 by decide)
      refine q _ _ (Int.emod_nonneg _ (by omega)) (Int.emod_lt_of_pos _ hm0) ⟨[], (sd * 48271 + 12345) % 2147483647, npc, upd_same, ?_, by decide, by simp, m0, by omega⟩ (Keep.atc.trans Keep.atp)
      rw [upd_ne npc.symm]
      exact upd_same
    | cons y r =>
      have hlen : (0 : Int) < ((y :: r).map V.int).length := by rw [List.length_map, List.length_cons]; omega
      rw [decide_eq_true hlen]
      refine iteT ⟨_, rfl, c, _, 0, .int y, rfl, rfl, SqL.of hc', atI_nat (j := 0) rfl, rfl, _, rfl, ite2 (fun cc => ?_) (fun cc => ?_)⟩
      · -- a nought is dropped
        refine ⟨_, fun _ _ z => z, ?_⟩
        refine ⟨_, rfl, .inl ⟨rfl, _, SqL.of hc'⟩, c, _, 0, 0, .int y, rfl, rfl, hc', by decide, by decide, seq0 (by simp), rfl, ?_⟩
        refine ⟨r.length, by simp, r, rfl, rfl, by rw [upd_upd]; rfl, by simp at hl'; omega, fun x hx => hn' x (List.mem_cons_of_mem _ hx)⟩
      · -- the first cell is drawn from
        have y0 := hn' y List.mem_cons_self
        refine ⟨_, rfl, c, _, rfl, .inl (SqL.of hc'), _, _, rfl, rfl, _, rfl, ?_⟩
        rw [decide_eq_true hlen]
        refine iteT ⟨_, rfl, c, _, 0, .int y, rfl, rfl, SqL.of hc', atI_nat (j := 0) rfl, ?_⟩
        refine ⟨_, rfl, _, rfl, _, _, rfl, rfl, ⟨hm0, by omega⟩, ?_⟩
        refine ⟨_, rfl, c, _, 0, 0, rfl, rfl, hc', ix0 (by simp), ?_⟩
        refine ⟨_, rfl, .inl ⟨_, rfl, _, rfl, _, _, rfl, rfl, hm0, ?_⟩⟩
        refine fin y (y / many :: r) _ y0 (by simpa using hl') (fun x hx => ?_) (by rw [upd_upd]; rfl)
        rcases List.mem_cons.mp hx with rfl | hx
        · exact Int.ediv_nonneg y0 (by omega)
        · exact hn' x (List.mem_cons_of_mem _ hx)
end

/-! ### texts as lists of signs -/
abbrev S := SX.S
theorem S_cps (l : List Nat) : (S l).cps.toList = l := rfl
theorem occ1_fst (s sub : Str) (hi : Nat) : ∀ (l : List Nat) (st : Array Nat × Nat), 1 ≤ st.1.size → (forIn l st (PySem.StrLaws.occBody s sub hi 1)).run.fst = st.1
  | [], st, _ => rfl
  | a :: l, st, h => by
    rw [List.forIn_cons]
    unfold PySem.StrLaws.occBody
    rw [if_neg (by omega)]
    exact occ1_fst s sub hi l st h
theorem occ1_list (s sub : Str) (hi : Nat) : ∀ (l : List Nat) (free : Nat), (∀ i ∈ l, free ≤ i) →
    (forIn l ((#[] : Array Nat), free) (PySem.StrLaws.occBody s sub hi 1)).run.fst.toList = (l.find? fun i => decide (i + sub.length ≤ hi) && Builtin.Str.subAt s sub i).toList
  | [], free, _ => rfl
  | a :: l, free, hf => by
    have ha : free ≤ a := hf a List.mem_cons_self
    rw [List.forIn_cons]
    by_cases hc : a + sub.length ≤ hi ∧ Builtin.Str.subAt s sub a = true
    · have e : (decide (a + sub.length ≤ hi) && Builtin.Str.subAt s sub a) = true := by rw [decide_eq_true hc.1, hc.2]; rfl
      rw [List.find?_cons_of_pos (p := fun i => decide (i + sub.length ≤ hi) && Builtin.Str.subAt s sub i) e]
      unfold PySem.StrLaws.occBody
      rw [if_pos ⟨⟨⟨by show (#[] : Array Nat).size < 1; decide, ha⟩, hc.1⟩, hc.2⟩]
      have h1 := occ1_fst s sub hi l ((#[] : Array Nat).push a, a + sub.length) (by simp)
      exact congrArg Array.toList h1
    · have e : ¬ (decide (a + sub.length ≤ hi) && Builtin.Str.subAt s sub a) = true := by
        rw [Bool.and_eq_true, decide_eq_true_eq]
        exact hc
      rw [List.find?_cons_of_neg (p := fun i => decide (i + sub.length ≤ hi) && Builtin.Str.subAt s sub i) e]
      unfold PySem.StrLaws.occBody
      rw [if_neg (fun h => hc ⟨h.1.2, h.2⟩)]
      exact occ1_list s sub hi l free fun i hi' => hf i (List.mem_cons_of_mem _ hi')
theorem occ1 (s sub : Str) (lo hi : Nat) : Builtin.Str.occurrences s sub lo hi 1 = ((List.range' lo (hi + 1 - lo)).find? fun i => decide (i + sub.length ≤ hi) && Builtin.Str.subAt s sub i).toList := by
  rw [PySem.StrLaws.occ_eq]
  exact occ1_list s sub hi _ lo fun i hi' => (List.mem_range'_1.mp hi').1
theorem fromIx {n i : Nat} : fromIndex n (i : Int) = i := by
  unfold fromIndex
  rw [if_neg (by omega)]
  omega
/-- the first signs of l are those of s -/
def hd (s l : List Nat) : Bool := l.take s.length == s
theorem starts3 (l s : List Nat) (i : Nat) (hi : i ≤ l.length) : Txt.startswith3 (S l) (S s) (i : Int) = hd s (l.drop i) := by
  unfold Txt.startswith3
  rw [fromIx, PySem.StrLaws.subAt_eq, SX.S_len, SX.S_len]
  show (decide (i + s.length ≤ l.length) && ((l.drop i).take s.length == s)) = ((l.drop i).take s.length == s)
  by_cases h : ((l.drop i).take s.length == s) = true
  · rw [h]
    have e := congrArg List.length (beq_iff_eq.mp h)
    rw [List.length_take, List.length_drop] at e
    rw [decide_eq_true (show i + s.length ≤ l.length by omega)]
    rfl
  · rw [Bool.not_eq_true] at h
    rw [h, Bool.and_false]
/-- where the line ends that i stands in -/
def lineEnd (l : List Nat) (i : Nat) : Nat := i + ((l.drop i).takeWhile (· != 10)).length

theorem tw_split (p : Nat → Bool) : ∀ l : List Nat, l.takeWhile p ++ l.dropWhile p = l := fun l => List.takeWhile_append_dropWhile
theorem tw_len (p : Nat → Bool) (l : List Nat) : (l.takeWhile p).length ≤ l.length := by
  have := congrArg List.length (tw_split p l)
  rw [List.length_append] at this
  omega
theorem dw_head {p : Nat → Bool} {l r : List Nat} {c : Nat} (h : l.dropWhile p = c :: r) : p c = false := by
  have := List.head?_dropWhile_not p l
  rw [h] at this
  simpa using this
theorem tw_all {p : Nat → Bool} {l : List Nat} {c : Nat} (h : c ∈ l.takeWhile p) : p c = true := by
  induction l with
  | nil => cases h
  | cons a r ih =>
    rw [List.takeWhile_cons] at h
    split at h
    · rename_i ha
      rcases List.mem_cons.mp h with rfl | h
      · exact ha
      · exact ih h
    · cases h
theorem drop_tw (p : Nat → Bool) (l : List Nat) : l.drop (l.takeWhile p).length = l.dropWhile p := by
  have h := tw_split p l
  have e : (l.takeWhile p ++ l.dropWhile p).drop (l.takeWhile p).length = l.dropWhile p := List.drop_left
  rw [h] at e
  exact e
theorem sub1 (l : List Nat) (c i : Nat) : Builtin.Str.subAt (S l) (S [c]) i = (l[i]? == some c) := by
  rw [PySem.StrLaws.subAt_eq, SX.S_len]
  show ((l.drop i).take 1 == [c]) = _
  rw [← List.head?_drop]
  cases l.drop i with
  | nil => rfl
  | cons a r =>
    show ([a] == [c]) = (some a == some c)
    by_cases h : a = c
    · rw [h, beq_self_eq_true, beq_self_eq_true]
    · rw [beq_eq_false_iff_ne.mpr (fun z => h (by injection z)), beq_eq_false_iff_ne.mpr (fun z => h (by injection z))]
/-- where find finds a newline, or -1; either way the line's end comes out of it -/
theorem find_line (l : List Nat) (i : Nat) (hi : i ≤ l.length) : (Txt.find3 (S l) (S [10]) (i : Int) = (lineEnd l i : Int) ∧ lineEnd l i < l.length) ∨ (Txt.find3 (S l) (S [10]) (i : Int) = -1 ∧ lineEnd l i = l.length) := by
  have hs := tw_split (· != 10) (l.drop i)
  have hlen := congrArg List.length hs
  rw [List.length_append, List.length_drop] at hlen
  have e1 : Txt.find3 (S l) (S [10]) (i : Int) = match ((List.range' i (l.length + 1 - i)).find? fun j => decide (j + 1 ≤ l.length) && (l[j]? == some 10)).toList with | k :: _ => (k : Int) | [] => -1 := by
    unfold Txt.find3
    rw [fromIx, occ1]
    have e2 : (fun j => decide (j + (S [10]).length ≤ (S l).length) && Builtin.Str.subAt (S l) (S [10]) j) = fun j => decide (j + 1 ≤ l.length) && (l[j]? == some 10) := by
      funext j
      rw [sub1, SX.S_len]
      rfl
    rw [e2, SX.S_len]
    generalize (List.find? (fun j => decide (j + 1 ≤ l.length) && l[j]? == some 10) (List.range' i (l.length + 1 - i))).toList = L
    cases L <;> rfl
  rw [e1]
  have before : ∀ j, i ≤ j → j < lineEnd l i → l[j]? ≠ some 10 := by
    intro j h1 h2 h3
    have h4 : ((l.drop i).takeWhile (· != 10))[j - i]? = some 10 := by
      have h5 : (l.drop i)[j - i]? = some 10 := by
        rw [List.getElem?_drop, show i + (j - i) = j by omega]
        exact h3
      rw [← hs, List.getElem?_append_left (by unfold lineEnd at h2; omega)] at h5
      exact h5
    have := tw_all (p := (· != 10)) (List.mem_of_getElem? h4)
    simp at this
  cases hd : (l.drop i).dropWhile (· != 10) with
  | nil =>
    rw [hd] at hlen
    have he : lineEnd l i = l.length := by unfold lineEnd; simp at hlen; omega
    refine .inr ⟨?_, he⟩
    have hn : (List.range' i (l.length + 1 - i)).find? (fun j => decide (j + 1 ≤ l.length) && (l[j]? == some 10)) = none := by
      rw [List.find?_eq_none]
      intro j hj hh
      rw [Bool.and_eq_true, decide_eq_true_eq, beq_iff_eq] at hh
      exact before j (List.mem_range'_1.mp hj).1 (by omega) hh.2
    rw [hn]
    rfl
  | cons c r =>
    have hc := dw_head hd
    have c10 : c = 10 := by simpa using hc
    subst c10
    rw [hd] at hlen
    have he : lineEnd l i < l.length := by unfold lineEnd; simp at hlen; omega
    refine .inl ⟨?_, he⟩
    have at10 : l[lineEnd l i]? = some 10 := by
      have h5 : (l.drop i)[((l.drop i).takeWhile (· != 10)).length]? = some 10 := by
        conv => lhs; rw [← hs]
        rw [List.takeWhile_append_dropWhile]
        have e6 := drop_tw (· != 10) (l.drop i)
        rw [hd] at e6
        rw [← List.head?_drop, e6]
        rfl
      rw [List.getElem?_drop] at h5
      exact h5
    have hn : (List.range' i (l.length + 1 - i)).find? (fun j => decide (j + 1 ≤ l.length) && (l[j]? == some 10)) = some (lineEnd l i) := by
      rw [List.find?_range'_eq_some]
      refine ⟨?_, ?_, ?_⟩
      · rw [at10, decide_eq_true (by omega)]
        rfl
      · rw [List.mem_range'_1]
        unfold lineEnd at he ⊢
        omega
      · intro j h1 h2
        have := before j h1 h2
        simp [this]
    rw [hn]
    rfl

/-! ### the signs -/
def LET : Str := "abcdefghijklmnopqrstuvwxyzABCDEFGHIJKLMNOPQRSTUVWXYZ"
def DIG : Str := "0123456789"
def HEX : Str := "0123456789abcdef"
def SIGV : List Str := ["~<=", ":=", "<<", ">>", "<=", "~<", "==", "!=", ",", ";", ".", "(", ")", "[", "]", "+", "-", "*", "/", "&", "|", "^", "~", "!", "<"]
def RESV : List Str := ["system", "in", "out", "object", "cell", "operation", "give", "end", "task", "every", "within", "if", "else", "loop", "to", "while", "read", "write", "interrupt", "calls", "mod", "and", "or"]
def isLet (c : Nat) : Bool := decide (c ∈ LET.cps.toList)
def isDig (c : Nat) : Bool := decide (c ∈ DIG.cps.toList)
def isHx (c : Nat) : Bool := decide (c ∈ HEX.cps.toList)
def inRun (c : Nat) : Bool := isLet c || (isDig c || decide (c = 95))
def hexOf (d : List Nat) : Option Int := if d = [] then none else if 8 < d.length then none else if d.all isHx = false then none else some (Hx.hexNum d : Nat)
def numOf (r : List Nat) : Option Int :=
  if hd [48, 120] r = true then hexOf (r.drop 2) else if 10 < r.length then none else if r.all isDig = false then none
  else if r.head? = some 48 ∧ r ≠ [48] then none else if 4294967295 < ((PySem.NumText.digitsVal r : Nat) : Int) then none else some (PySem.NumText.digitsVal r : Nat)
def isRes (l : List Nat) : Bool := inV (.str (S l)) (RESV.map V.str)
/-- the token of a run: its kind, its value -/
def runTok (r : List Nat) : Option (Str × V) :=
  match r with
  | [] => none
  | c :: _ => if isDig c = true then (numOf r).map fun n => ("number", .int n) else if 16 < r.length then none else if isRes r = true then some ("word", .str (S r)) else some ("name", .str (S r))
def signOf (l : List Nat) : Option Str := SIGV.find? fun s => hd s.cps.toList l
theorem starts0 (l s : List Nat) : Txt.startswith (S l) (S s) = hd s l := by
  have h := starts3 l s 0 (Nat.zero_le _)
  rw [List.drop_zero] at h
  rw [← h]
  rfl
theorem str_of (z : Str) : z = S z.cps.toList := (SX.S_tl z).symm
theorem sgn_eq {c d : Nat} : decide (V.str ⟨#[c]⟩ = V.str ⟨#[d]⟩) = decide (c = d) := by
  by_cases h : c = d
  · rw [h, decide_eq_true rfl, decide_eq_true rfl]
  · rw [decide_eq_false h, decide_eq_false (fun q => h ?_)]
    have e := V.str.inj q
    have e2 := congrArg (fun x : Str => x.cps.toList) e
    exact (List.cons.inj e2).1
theorem cut_mid (l : List Nat) (i j : Nat) (hi : i ≤ l.length) (hj : j ≤ l.length) : cutS (S l) (some (i : Int)) (some (j : Int)) = S ((l.drop i).take (j - i)) := by
  unfold cutS
  rw [SX.S_len, HT.sIx_nat, HT.sIx_nat, Nat.min_eq_left hi, Nat.min_eq_left hj]
theorem cut_from (l : List Nat) (i : Nat) (hi : i ≤ l.length) : cutS (S l) (some (i : Int)) none = S (l.drop i) := by
  unfold cutS
  rw [SX.S_len, HT.sIx_nat, HT.sIx_none, Nat.min_eq_left hi]
  show (⟨((l.drop i).take (l.length - i)).toArray⟩ : Str) = _
  rw [List.take_of_length_le (by rw [List.length_drop]; exact Nat.le_refl _)]
theorem tw_at {p : Nat → Bool} {l : List Nat} {n : Nat} (h : n < (l.takeWhile p).length) : ∃ c, l[n]? = some c ∧ p c = true := by
  have hs := tw_split p l
  refine ⟨(l.takeWhile p)[n], ?_, tw_all (List.getElem_mem h)⟩
  conv => lhs; rw [← hs]
  rw [List.getElem?_append_left h]
  exact List.getElem?_eq_getElem h
theorem tw_stop {p : Nat → Bool} {l : List Nat} {c : Nat} (h : l[(l.takeWhile p).length]? = some c) : p c = false := by
  rw [← List.head?_drop, drop_tw] at h
  cases e : l.dropWhile p with
  | nil => rw [e] at h; cases h
  | cons a r =>
    rw [e] at h
    cases h
    exact dw_head e
section
variable {P : Program} {w : World} {K : PySem.W.Frag} {mg : Str → Option Value} {base : Heap}
def sp__in_run : Sp := fun vs H Q _ => ∃ c : Nat, vs = [.str ⟨#[c]⟩] ∧ Q (.bl (inRun c)) H
theorem ok__in_run (T : Top P K mg) : FnOk P w K mg base CX0 1 T.a__in_run T.d__in_run ["character"]  sp__in_run := by
  refine T.F__in_run.ok sc__in_run (fun vs H Q E h => ?_) (fun cdv A outer s H vs Q E hr h => ?_)
  · obtain ⟨_, rfl, _⟩ := h
    rfl
  · obtain ⟨c, rfl, q⟩ := h
    refine ⟨_, (pss_one (ps_ret (pe_or (pe_cmpR op_in_sign (pv 0) (pe_gs (by rfl) T.c_LETTERS) (by with_unfolding_all rfl)) (pe_or (pe_cmpR op_in_sign (pv 0) (pe_gs (by rfl) T.c_DIGITS) (by with_unfolding_all rfl)) (pe_one (pe_cmpR op_eq (pv 0) pe_str (nomark _))))))), ?_⟩
    refine ⟨_, rfl, c, LET, rfl, rfl, _, rfl, ?_⟩
    unfold inRun at q
    show if isLet c = true then _ else _
    cases h1 : isLet c with
    | true =>
      rw [h1] at q
      exact iteT q
    | false =>
      rw [h1] at q
      refine iteF ⟨_, rfl, c, DIG, rfl, rfl, _, rfl, ?_⟩
      show if isDig c = true then _ else _
      cases h2 : isDig c with
      | true =>
        rw [h2] at q
        exact iteT q
      | false =>
        rw [h2] at q
        refine iteF ⟨_, rfl, rfl, ?_⟩
        have e := sgn_eq (c := c) (d := 95)
        exact e ▸ q
def sp__run : Sp := fun vs H Q _ => ∃ (l : List Nat) (i : Nat), vs = [.str (S l), .int (i : Int)] ∧ i ≤ l.length ∧ l.length ≤ 100000 ∧ Q (.str (S ((l.drop i).takeWhile inRun))) H
theorem ok__run (T : Top P K mg) : FnOk P w K mg base CX0 2 T.a__run T.d__run ["text", "at"]  sp__run := by
  refine T.F__run.ok sc__run (fun vs H Q E h => ?_) (fun cdv A outer s H vs Q E hr h => ?_)
  · obtain ⟨_, _, rfl, _⟩ := h
    rfl
  · obtain ⟨l, i, rfl, hi, hl, q⟩ := h
    have hz : (S l).length ≤ sizeLine := by rw [SX.S_len]; exact Nat.le_trans hl (by decide)
    refine ⟨_, (pss_cons (ps_set (i := 2) sc__run.nd rfl (by first | exact Or.inl rfl | exact Or.inr rfl) (pv 1))
  (pss_cons (ps_while PassesOwn.never (pw_and (pt_cmpR op_lt (pv 2) (pe_callB call_len_str (by rfl) T.m_len PySem.boot_len (pa_cons (pv 0) pa_nil)) (nomark _)) (pw_and1 (pt_val (pe_call (ok__in_run T) (hr.mono (by decide)) (by rfl) T.g__in_run T.F__in_run.kp T.b__in_run .nil pass0 (pa_cons (pe_ix ix_str (pv 0) (pv 2) (fun _ _ => rfl)) pa_nil))))).pt
  (pss_one (ps_aug (i := 2) sc__run.nd rfl (by first | exact Or.inl rfl | exact Or.inr rfl) pe_int ip_add)))
  (pss_one (ps_ret (pe_slice sl_str (pv 0) (po_some (pv 1)) (po_some (pv 2))))))), ?_⟩
    refine ⟨_, rfl, ?_⟩
    have ht := tw_len inRun (l.drop i)
    rw [List.length_drop] at ht
    refine ⟨fun m σ H' => ∃ n, m = ((l.drop i).takeWhile inRun).length - n ∧ n ≤ ((l.drop i).takeWhile inRun).length ∧ σ = [some (.str (S l)), some (.int (i : Int)), some (.int ((i + n : Nat) : Int))] ∧ H' = H, ⟨_, 0, rfl, Nat.zero_le _, rfl, rfl⟩, ?_⟩
    rintro m σ H' ⟨n, rfl, hn, rfl, rfl⟩
    refine ⟨_, rfl, _, rfl, _, rfl, hz, _, _, rfl, rfl, _, rfl, ?_⟩
    have stop : n = ((l.drop i).takeWhile inRun).length → (tRet (tSl rSlS (tVar 0) (tPart (tVar 1)) (tPart (tVar 2)))) { nx := fun _ H' => Q .non H', rt := Q } [some (.str (S l)), some (.int (i : Int)), some (.int ((i + n : Nat) : Int))] H' := fun e => by
      refine ⟨_, rfl, _, rfl, _, rfl, _, rfl, _, rfl, _, rfl, hz, ?_⟩
      rw [cut_mid l i (i + n) hi (by omega), show i + n - i = n by omega, e]
      have e2 : (l.drop i).take ((l.drop i).takeWhile inRun).length = (l.drop i).takeWhile inRun := by
        conv => lhs; rhs; rw [← tw_split inRun (l.drop i)]
        exact List.take_left
      rw [e2]
      exact q
    rw [SX.S_len]
    by_cases hlt : i + n < l.length
    · rw [decide_eq_true (by omega)]
      obtain ⟨c, hc⟩ : ∃ c, l[i + n]? = some c := ⟨l[i + n], List.getElem?_eq_getElem hlt⟩
      have hc' : (l.drop i)[n]? = some c := by rw [List.getElem?_drop]; exact hc
      refine iteT ⟨_, rfl, _, rfl, S l, _, c, rfl, rfl, hz, atI_nat hc, c, rfl, inRun c, rfl, ?_⟩
      by_cases hn2 : n < ((l.drop i).takeWhile inRun).length
      · obtain ⟨c2, h2, h3⟩ := tw_at hn2
        have e : c2 = c := Option.some.inj (h2.symm.trans hc')
        subst e
        rw [h3]
        refine iteT ⟨_, fun _ _ z => z, ?_⟩
        exact ⟨_, rfl, _, _, rfl, rfl, _, by omega, n + 1, rfl, hn2, rfl, rfl⟩
      · have e : n = ((l.drop i).takeWhile inRun).length := by omega
        have h3 : inRun c = false := tw_stop (p := inRun) (by rw [← e]; exact hc')
        rw [h3]
        exact iteF (stop e)
    · rw [decide_eq_false (by omega)]
      exact iteF (iteF (stop (by omega)))
def sp__comment_end : Sp := fun vs H Q _ => ∃ (l : List Nat) (i : Nat), vs = [.str (S l), .int (i : Int)] ∧ i ≤ l.length ∧ l.length ≤ 100000 ∧ Q (.int (lineEnd l i : Int)) H
theorem ok__comment_end (T : Top P K mg) : FnOk P w K mg base CX0 1 T.a__comment_end T.d__comment_end ["text", "at"]  sp__comment_end := by
  refine T.F__comment_end.ok sc__comment_end (fun vs H Q E h => ?_) (fun cdv A outer s H vs Q E hr h => ?_)
  · obtain ⟨_, _, rfl, _⟩ := h
    rfl
  · obtain ⟨l, i, rfl, hi, hl, q⟩ := h
    have hz : (S l).length ≤ sizeLine := by rw [SX.S_len]; exact Nat.le_trans hl (by decide)
    refine ⟨_, (pss_cons (ps_set (i := 2) sc__comment_end.nd rfl (by first | exact Or.inl rfl | exact Or.inr rfl) (pe_bm PySem.F.plainAttrs_str PySem.F.slot_str_find PySem.F.type_str_find mt_find3 (pv 0) (pa_cons pe_str (pa_cons (pv 1) pa_nil))))
  (pss_cons (ps_if (pt_cmpR op_lt (pv 2) pe_int (nomark _))
  (pss_one (ps_ret (pe_callB call_len_str (by rfl) T.m_len PySem.boot_len (pa_cons (pv 0) pa_nil))))
  pss_nil)
  (pss_one (ps_ret (pv 2))))), ?_⟩
    refine ⟨_, rfl, rfl, _, rfl, S l, S [10], (i : Int), rfl, rfl, ?_⟩
    rcases find_line l i hi with ⟨e, h2⟩ | ⟨e, h2⟩
    · rw [e]
      refine ⟨_, rfl, _, _, rfl, rfl, _, rfl, ?_⟩
      rw [decide_eq_false (by omega)]
      exact iteF ⟨_, rfl, q⟩
    · rw [e]
      refine ⟨_, rfl, _, _, rfl, rfl, _, rfl, iteT ⟨_, rfl, _, rfl, hz, ?_⟩⟩
      rw [SX.S_len, ← h2]
      exact q
end

theorem bits_lt {n : Int} (h : Builtin.Int.intBits n ≤ 1048576) : n.natAbs < 2 ^ 1048576 := by
  unfold Builtin.Int.intBits at h
  by_cases e : n = 0
  · subst e; exact Nat.pow_pos (by decide)
  · have z : (n == 0) = false := by simpa using e
    rw [z] at h
    have h2 : n.natAbs.log2 < 1048576 := h
    exact (Nat.log2_lt (by omega)).mp h2
/-! ### deadbeat.words, decimal: an integer in decimal, some digits at a time -/
theorem dec_str (m : Nat) (h : m < 1000000000000000000) : (Str.ofString (toString ((m : Nat) : Int))).length ≤ 18 := by
  rw [SX.num_S m, SX.S_len]
  exact TL.numL_len (k := 18) (by decide) (by omega)
theorem dec_log (m : Nat) (h : m < 1000000000000000000) : ((m : Int).natAbs).log2 < 1920 := by
  by_cases h0 : m = 0
  · subst h0; decide
  · have z : ((m : Int).natAbs) = m := rfl
    rw [z]
    exact Nat.lt_trans ((Nat.log2_lt h0).mpr (show m < 2 ^ 60 by omega)) (by decide)
theorem zfill_le (x : Str) (h : x.length ≤ 18) : (Txt.zfill x 18).length ≤ 18 := by
  unfold Txt.zfill
  by_cases c : (18 : Int) ≤ x.length
  · rw [if_pos c]; exact h
  · rw [if_neg c]
    unfold PySem.zfilled
    have key : ∀ c, x.cps[0]? = some c → 1 ≤ x.length := fun c hc => (Array.getElem?_eq_some_iff.mp hc).1
    split
    · rename_i hc'
      have h2 := key _ hc'
      rw [PySem.size_cat, PySem.size_padded, PySem.size_strSub x 0 1 h2, PySem.size_strSub x 1 x.length (Nat.le_refl _)]; omega
    · rename_i hc'
      have h2 := key _ hc'
      rw [PySem.size_cat, PySem.size_padded, PySem.size_strSub x 0 1 h2, PySem.size_strSub x 1 x.length (Nat.le_refl _)]; omega
    · rw [PySem.size_padded]; omega
/-- the pieces so far: some short texts, what is left of n -/
structure DecInv (n : Int) (ps : List Str) (r : Int) : Prop where
  r0 : 0 ≤ r
  pos : ps = [] ∧ r = n.natAbs ∨ 1 ≤ r ∧ 1000000000000000000 ≤ n.natAbs
  le : r.toNat * (1000000000000000000 : Nat) ^ ps.length ≤ n.natAbs
  short : ∀ p ∈ ps, p.length ≤ 18
theorem dec_count {n : Int} {ps : List Str} {r : Int} (d : DecInv n ps r) (h : n.natAbs < 2 ^ 1048576) : ps.length ≤ 20000 := by
  rcases d.pos with ⟨e, _⟩ | e
  · rw [e]; exact Nat.zero_le _
  · have h1 : 1 ≤ r.toNat := by omega
    have h2 : (2 ^ 59 : Nat) ^ ps.length ≤ n.natAbs :=
      Nat.le_trans (Nat.pow_le_pow_left (show (2 ^ 59 : Nat) ≤ 1000000000000000000 by decide) _) (Nat.le_trans (Nat.le_mul_of_pos_left _ h1) d.le)
    rw [← Nat.pow_mul] at h2
    have h3 : 59 * ps.length < 1048576 := (Nat.pow_lt_pow_iff_right (by decide : 1 < 2)).mp (Nat.lt_of_le_of_lt h2 h)
    omega
theorem sum_short {ps : List Str} (h : ∀ p ∈ ps, p.length ≤ 18) : (ps.map (·.length)).sum ≤ 18 * ps.length := by
  induction ps with
  | nil => simp
  | cons a r ih =>
    have h1 := h a (by simp)
    have h2 := ih fun p hp => h p (by simp [hp])
    simp only [List.map_cons, List.sum_cons, List.length_cons]
    omega
section
variable {P : Program} {w : World} {K : PySem.W.Frag} {mg : Str → Option Value} {base : Heap}
def sp_decimal : Sp := fun vs H Q _ => ∃ n : Int, vs = [.int n] ∧ n.natAbs < 2 ^ 1048576 ∧
  ∀ (z : Str) (H' : Hp), z.length ≤ 1000000 → (0 ≤ n → n < 1000000000000000000 → z = toString n) → Same H H' → Q (.str z) H'
theorem ok_decimal (T : Top P K mg) : FnOk P w K mg base CX0 1 T.a_decimal T.d_decimal ["n"]  sp_decimal := by
  refine T.F_decimal.ok sc_decimal (fun vs H Q E h => ?_) (fun cdv A outer s H vs Q E hr h => ?_)
  · obtain ⟨_, rfl, _⟩ := h
    rfl
  · obtain ⟨n, rfl, hn, q⟩ := h
    refine ⟨_, (pss_cons (ps_set (i := 1) sc_decimal.nd rfl (by first | exact Or.inl rfl | exact Or.inr rfl) (pe_lst pa_nil))
  (pss_cons (ps_set (i := 2) sc_decimal.nd rfl (by first | exact Or.inl rfl | exact Or.inr rfl) (pe_callB call_abs (by rfl) T.m_abs (by decide +kernel) (pa_cons (pv 0) pa_nil)))
  (pss_cons (ps_while PassesOwn.never (pt_cmpR op_ge (pv 2) (pe_gi (by rfl) T.c_PIECE) (nomark _))
  (pss_cons (ps_asg (pe_callB call_divmodW (by rfl) T.m_divmod (by decide +kernel) (pa_cons (pv 2) (pa_cons (pe_gi (by rfl) T.c_PIECE) pa_nil))) (pg_tup rfl (pgs_cons (pg_name (i := 2) sc_decimal.nd rfl (by first | exact Or.inl rfl | exact Or.inr rfl)) (pgs_cons (pg_name (i := 3) sc_decimal.nd rfl (by first | exact Or.inl rfl | exact Or.inr rfl)) pgs_nil))))
  (pss_one (ps_expr (pe_bm PySem.F.plainAttrs_list PySem.F.slot_list_append PySem.F.type_list_append mt_append (pv 1) (pa_cons (pe_bm PySem.F.plainAttrs_str PySem.F.slot_str_zfill PySem.F.type_str_zfill mt_zfill (pe_callTy call_str_int (by rfl) T.m_str (by decide +kernel) (pa_cons (pv 3) pa_nil)) (pa_cons (pe_gi (by rfl) T.c_PIECE_DIGITS) pa_nil)) pa_nil))))))
  (pss_cons (ps_expr (pe_bm PySem.F.plainAttrs_list PySem.F.slot_list_append PySem.F.type_list_append mt_append (pv 1) (pa_cons (pe_callTy call_str_int (by rfl) T.m_str (by decide +kernel) (pa_cons (pv 2) pa_nil)) pa_nil)))
  (Evl.pss_cut (ps_if (pt_cmpR op_lt (pv 0) pe_int (nomark _))
  (pss_one (ps_expr (pe_bm PySem.F.plainAttrs_list PySem.F.slot_list_append PySem.F.type_list_append mt_append (pv 1) (pa_cons pe_str pa_nil))))
  pss_nil)
  (pss_one (ps_ret (pe_bm PySem.F.plainAttrs_str PySem.F.slot_str_join PySem.F.type_str_join mt_join pe_str (pa_cons (pe_revL (pv 1)) pa_nil))))))))), ?_⟩
    refine ⟨Nat.zero_le _, fun p np => ?_⟩
    refine ⟨_, rfl, n, rfl, ?_⟩
    have ea : (if n < 0 then -n else n) = ((n.natAbs : Nat) : Int) := by split <;> omega
    show gName 2 (V.int (if n < 0 then -n else n)) _ _ _
    rw [ea]
    refine while_by (fun σ H' => ∃ (ps : List Str) (r : Int) (y : Option V), σ = [some (.int n), some (.ref p), some (.int r), y] ∧ H' p = some (.lst (ps.map V.str)) ∧ Same H H' ∧ DecInv n ps r)
      (fun σ _ => match σ with | [_, _, some (.int r), _] => r.toNat | _ => 0) ⟨[], _, none, rfl, upd_same, same_new np, ⟨by omega, .inl ⟨rfl, rfl⟩, by simp, by simp⟩⟩ ?_ ?_
    rotate_left
    · intro σ H' Q1 Q2 f h
      obtain ⟨i, h1, j, h2, a, h3, h4, h5, h6⟩ := h
      exact ⟨i, h1, j, h2, a, h3, h4, h5, f _ _ h6⟩
    · rintro σ H1 ⟨ps, r, y, rfl, hp, sm, d⟩
      have hcnt := dec_count d hn
      refine ⟨_, rfl, _, _, rfl, rfl, _, rfl, ?_⟩
      by_cases c : (1000000000000000000 : Int) ≤ r
      · rw [decide_eq_true c]
        refine iteT ?_
        refine ⟨_, rfl, _, _, rfl, ⟨by decide, PyProof.noPylong_of_log2 (by decide)⟩, fun t nt => ?_⟩
        have tp : p ≠ t := ne_of_none hp nt
        obtain ⟨lo, elo⟩ : ∃ lo : Nat, r % 1000000000000000000 = (lo : Int) := ⟨(r % 1000000000000000000).toNat, by omega⟩
        have lo1 : lo < 1000000000000000000 := by omega
        rw [elo]
        refine ⟨t, _, rfl, SqT.of upd_same, rfl, _, _, rfl, _, _, rfl, rfl, ?_⟩
        have hp' : upd H1 t (.tup [.int (r / 1000000000000000000), .int (lo : Int)]) p = some (.lst (ps.map V.str)) := by rw [upd_ne tp]; exact hp
        refine ⟨_, rfl, .inl ⟨rfl, _, SqL.of hp'⟩, _, rfl, _, rfl, dec_log lo lo1, rfl, _, _, rfl, rfl, rfl, p, _, _, rfl, rfl, hp', ?_, ?_⟩
        · rw [List.length_map, sizeLine_eq]; omega
        have z1 := zfill_le _ (dec_str lo lo1)
        refine ⟨⟨ps ++ [Txt.zfill (Str.ofString (toString ((lo : Nat) : Int))) 18], _, _, rfl, by rw [upd_same, List.map_append]; rfl, (sm.off (sm.free nt)).off np, ?_⟩, ?_⟩
        · have big : 1000000000000000000 ≤ n.natAbs := by
            have := Nat.le_trans (Nat.le_mul_of_pos_right r.toNat (Nat.pow_pos (n := ps.length) (by decide : 0 < 1000000000000000000))) d.le
            omega
          refine ⟨by omega, .inr ⟨by omega, big⟩, ?_, fun x hx => ?_⟩
          · rw [List.length_append, List.length_singleton, Nat.pow_succ, Nat.mul_comm ((1000000000000000000 : Nat) ^ ps.length), ← Nat.mul_assoc]
            refine Nat.le_trans (Nat.mul_le_mul_right _ ?_) d.le
            omega
          · rcases List.mem_append.mp hx with hx | hx
            · exact d.short x hx
            · rw [List.mem_singleton.mp hx]; exact z1
        · show (r / 1000000000000000000).toNat < r.toNat
          omega
      · rw [decide_eq_false c]
        refine iteF ?_
        have r0 := d.r0
        obtain ⟨m, rfl⟩ : ∃ m : Nat, r = (m : Int) := ⟨r.toNat, by omega⟩
        have m1 : m < 1000000000000000000 := by omega
        refine ⟨_, rfl, .inl ⟨rfl, _, SqL.of hp⟩, _, rfl, _, rfl, dec_log m m1, p, _, _, rfl, rfl, hp, ?_, ?_⟩
        · rw [List.length_map, sizeLine_eq]; omega
        obtain ⟨qs, eqs⟩ : ∃ qs : List Str, qs = ps ++ [Str.ofString (toString ((m : Nat) : Int))] := ⟨_, rfl⟩
        have hq : upd H1 p (.lst (ps.map V.str ++ [V.str (Str.ofString (toString ((m : Nat) : Int)))])) p = some (.lst (qs.map V.str)) := by rw [upd_same, eqs, List.map_append]; rfl
        have sm2 : Same H (upd H1 p (.lst (ps.map V.str ++ [V.str (Str.ofString (toString ((m : Nat) : Int)))]))) := sm.off np
        have short : ∀ x ∈ qs, x.length ≤ 18 := fun x hx => by
          rw [eqs] at hx
          rcases List.mem_append.mp hx with hx | hx
          · exact d.short x hx
          · rw [List.mem_singleton.mp hx]; exact dec_str m m1
        have cnt : qs.length ≤ 20001 := by rw [eqs, List.length_append, List.length_singleton]; omega
        refine ⟨fun σ' H2 => ∃ rs : List Str, σ' = [some (.int n), some (.ref p), some (.int (m : Int)), y] ∧ (∀ x ∈ rs, x.length ≤ 18) ∧ rs.length ≤ 20002 ∧ H2 p = some (.lst (rs.map V.str)) ∧ Same H H2 ∧ (0 ≤ n → n < 1000000000000000000 → rs = [Str.ofString (toString n)]), ?_, ?_⟩
        · refine ⟨_, rfl, _, _, rfl, rfl, _, rfl, ite2 (fun c2 => ?_) (fun c2 => ?_)⟩
          · have neg := of_decide_eq_true c2
            refine ⟨_, rfl, .inl ⟨rfl, _, SqL.of hq⟩, p, _, _, rfl, rfl, hq, ?_, ?_⟩
            · rw [List.length_map, sizeLine_eq]; omega
            · refine ⟨qs ++ [("-" : Str)], rfl, fun x hx => ?_, ?_, (by rw [upd_same, List.map_append]; rfl), sm2.off np, fun a _ => absurd neg (by omega)⟩
              · rcases List.mem_append.mp hx with hx | hx
                · exact short x hx
                · rw [List.mem_singleton.mp hx]; decide
              · rw [List.length_append]; exact Nat.succ_le_succ cnt
          · refine ⟨qs, rfl, short, (by omega), hq, sm2, fun a b => ?_⟩
            rcases d.pos with ⟨e, e2⟩ | ⟨e, e2⟩
            · have e3 : n = (m : Int) := by omega
              rw [eqs, e, e3]
              rfl
            · omega
        · rintro σ' H2 ⟨rs, rfl, hs, hl, h2, s2, hz⟩
          have sum := sum_short (ps := rs.reverse) (fun x hx => hs x (List.mem_reverse.mp hx))
          rw [List.length_reverse] at sum
          have e0 : ("" : Str).length = 0 := rfl
          refine ⟨rfl, _, rfl, p, _, rfl, SqL.of h2, fun u nu => ⟨"", u, rs.reverse, rfl, rfl, .inl (SqL.of (by rw [upd_same, List.map_reverse])), ?_, q _ _ ?_ (fun a b => ?_) (s2.trans (same_new nu))⟩⟩
          · rw [e0]; omega
          · show (PySem.Builtin.Str.glued "" rs.reverse).length ≤ _
            rw [PySem.size_glued, e0]; omega
          · rw [hz a b]
            rfl
end

section
variable {P : Program} {w : World} {K : PySem.W.Frag} {mg : Str → Option Value} {base : Heap}
def sp__longest_sign : Sp := fun vs H Q _ => ∃ (l : List Nat) (i : Nat), vs = [.str (S l), .int (i : Int)] ∧ i ≤ l.length ∧ Q (.str ((signOf (l.drop i)).getD "")) H
theorem ok__longest_sign (T : Top P K mg) : FnOk P w K mg base CX0 1 T.a__longest_sign T.d__longest_sign ["text", "at"]  sp__longest_sign := by
  refine T.F__longest_sign.ok sc__longest_sign (fun vs H Q E h => ?_) (fun cdv A outer s H vs Q E hr h => ?_)
  · obtain ⟨_, _, rfl, _⟩ := h
    rfl
  · obtain ⟨l, i, rfl, hi, q⟩ := h
    have hS : ∀ H, SqT K H T.p_SIGNS (SIGV.map V.str) := T.q_SIGNS
    refine ⟨_, (pss_cons (ps_for PassesOwn.never rfl (pi_tup (pe_gr (by rfl) T.c_SIGNS)) (pg_name (i := 2) sc__longest_sign.nd rfl (by first | exact Or.inl rfl | exact Or.inr rfl))
  (pss_one (ps_if (pt_val (pe_bm PySem.F.plainAttrs_str PySem.F.slot_str_startswith PySem.F.type_str_startswith mt_startswith3 (pv 0) (pa_cons (pv 2) (pa_cons (pv 1) pa_nil))))
  (pss_one (ps_ret (pv 2)))
  pss_nil)))
  (pss_one (ps_ret pe_str))), ?_⟩
    refine ⟨T.p_SIGNS, rfl, ⟨_, hS _⟩, for_tup (xs := SIGV.map V.str) (fun k σ H' => ∃ y2, σ = [some (.str (S l)), some (.int (i : Int)), y2] ∧ H' = H ∧ signOf (l.drop i) = (SIGV.drop k).find? fun s => hd s.cps.toList (l.drop i)) ⟨none, rfl, rfl, rfl⟩ (fun k σ H' _ _ => hS _) ?_ ?_⟩
    · rintro k x σ H' hk ⟨y2, rfl, rfl, hf⟩
      obtain ⟨z, hz, rfl⟩ : ∃ z, SIGV[k]? = some z ∧ V.str z = x := by
        rw [List.getElem?_map] at hk
        cases e : SIGV[k]? with
        | none => rw [e] at hk; cases hk
        | some n => rw [e] at hk; exact ⟨n, rfl, Option.some.inj hk⟩
      have hd0 : SIGV.drop k = z :: SIGV.drop (k + 1) := by
        obtain ⟨h1, h2⟩ := List.getElem?_eq_some_iff.mp hz
        rw [List.drop_eq_getElem_cons h1, h2]
      rw [hd0] at hf
      refine ⟨_, rfl, rfl, _, rfl, _, rfl, S l, z, (i : Int), rfl, rfl, ?_⟩
      have e : Txt.startswith3 (S l) z (i : Int) = hd z.cps.toList (l.drop i) := by
        conv => lhs; rw [str_of z]
        exact starts3 l z.cps.toList i hi
      rw [e]
      refine ⟨_, rfl, ?_⟩
      cases hh : hd z.cps.toList (l.drop i) with
      | true =>
        rw [List.find?_cons_of_pos (p := fun s : Str => hd s.cps.toList (l.drop i)) hh] at hf
        refine iteT ⟨_, rfl, ?_⟩
        rw [hf] at q
        exact q
      | false =>
        rw [List.find?_cons_of_neg (p := fun s : Str => hd s.cps.toList (l.drop i)) (by rw [hh]; exact Bool.false_ne_true)] at hf
        exact iteF ⟨_, rfl, rfl, hf⟩
    · rintro σ H' ⟨y2, rfl, rfl, hf⟩
      have e : (SIGV.drop (SIGV.map V.str).length) = [] := by
        rw [List.length_map]
        exact List.drop_length
      rw [e] at hf
      rw [hf] at q
      exact q
def sp__consists_of : Sp := fun vs H Q _ => ∃ (l : List Nat) (z : Str), vs = [.str (S l), .str z] ∧ l.length ≤ 100000 ∧ ∀ H', Same H H' → Q (.bl (l.all fun c => decide (c ∈ z.cps.toList))) H'
theorem ok__consists_of (T : Top P K mg) : FnOk P w K mg base CX0 1 T.a__consists_of T.d__consists_of ["run", "allowed"]  sp__consists_of := by
  refine T.F__consists_of.ok sc__consists_of (fun vs H Q E h => ?_) (fun cdv A outer s H vs Q E hr h => ?_)
  · obtain ⟨_, _, rfl, _⟩ := h
    rfl
  · obtain ⟨l, z, rfl, hl, q⟩ := h
    refine ⟨_, (pss_one (ps_ret (pe_callB (cr_all rfl) (by rfl) T.m_all (by decide +kernel) (pa_cons (pe_lc (own := [("character", 2)]) (g := gName 2) (tt := tYes) rfl sc__consists_of.nd (pi_str (pv 0)) (blkOk_by (N := ["run", "allowed", "character"]) (sc := defScope s__consists_of) (by decide +kernel)) (fun _ _ _ _ _ => pg_name (i := 2) sc__consists_of.nd rfl (Or.inl rfl)) (fun _ _ _ _ _ => pts_nil) (fun _ _ _ _ _ => (pe_cmpR op_in_sign (pv 2) (pv 1) (by with_unfolding_all rfl)))) pa_nil)))), ?_⟩
    refine ⟨_, rfl, S l, rfl, fun D hD => ?_⟩
    refine lc_it walk_str (fun i H' => H' = upd H D (.lst ((l.take i).map fun c => V.bl (decide (c ∈ z.cps.toList))))) rfl (fun _ _ _ _ => trivial) ?_ ?_
    · rintro i x H' H'' hi rfl ⟨rfl, c, hc, rfl⟩
      have hc' : l[i]? = some c := by
        rw [← hc]
        show _ = l.toArray[i]?
        simp
      refine ⟨rfl, ?_⟩
      refine ⟨_, rfl, _, rfl, c, z, rfl, rfl, _, upd_same, ?_, ?_⟩
      · rw [List.length_map, List.length_take]
        exact Nat.lt_of_le_of_lt (Nat.le_trans (Nat.min_le_right _ _) hl) (by decide)
      · rw [upd_upd, List.take_add_one, hc', List.map_append]
        rfl
    · rintro H' rfl
      have e : (S l).cps.size = l.length := by simp
      rw [e, List.take_length]
      refine ⟨D, l.map fun c => decide (c ∈ z.cps.toList), rfl, SqL.of ?_, ?_⟩
      · rw [List.map_map]
        exact upd_same
      · have e2 : (l.map fun c => decide (c ∈ z.cps.toList)).all id = l.all fun c => decide (c ∈ z.cps.toList) := by
          rw [List.all_map]
          rfl
        rw [e2]
        exact q _ (same_new hD)
def optV : Option Int → V
  | some n => .int n
  | none => .non
theorem len_zero {l : List Nat} : decide (V.str (S l) = V.str "") = decide (l = []) := by
  by_cases h : l = []
  · subst h
    rfl
  · rw [decide_eq_false h, decide_eq_false (fun q => h ?_)]
    have e2 := congrArg (fun x : Str => x.cps.toList) (V.str.inj q)
    exact e2
theorem hx_of {c : Nat} (h : isHx c = true) : Hx.IsHex c := by
  have h2 := of_decide_eq_true h
  have e : HEX.cps.toList = [48, 49, 50, 51, 52, 53, 54, 55, 56, 57, 97, 98, 99, 100, 101, 102] := by decide +kernel
  rw [e] at h2
  simp only [List.mem_cons, List.mem_nil_iff, or_false] at h2
  unfold Hx.IsHex
  omega
def sp__hex_number : Sp := fun vs H Q _ => ∃ l : List Nat, vs = [.str (S l)] ∧ l.length ≤ 100000 ∧ ∀ H', Same H H' → Q (optV (hexOf l)) H'
theorem ok__hex_number (T : Top P K mg) : FnOk P w K mg base CX0 2 T.a__hex_number T.d__hex_number ["digits"]  sp__hex_number := by
  refine T.F__hex_number.ok sc__hex_number (fun vs H Q E h => ?_) (fun cdv A outer s H vs Q E hr h => ?_)
  · obtain ⟨_, rfl, _⟩ := h
    rfl
  · obtain ⟨l, rfl, hl, q⟩ := h
    have hz : (S l).length ≤ sizeLine := by rw [SX.S_len]; exact Nat.le_trans hl (by decide)
    refine ⟨_, (pss_cons (ps_if (pw_or (pt_cmpR op_eq (pv 0) pe_str (nomark _)) (pw_or (pt_cmpR op_gt (pe_callB call_len_str (by rfl) T.m_len PySem.boot_len (pa_cons (pv 0) pa_nil)) (pe_gi (by rfl) T.c_LONGEST_HEX) (nomark _)) (pw_or1 (pt_not (pt_val (pe_call (ok__consists_of T) (hr.mono (by decide)) (by rfl) T.g__consists_of T.F__consists_of.kp T.b__consists_of .nil pass0 (pa_cons (pv 0) (pa_cons (pe_gs (by rfl) T.c_HEX_DIGITS) pa_nil)))))))).pt
  (pss_one (ps_ret pe_non))
  pss_nil)
  (pss_one (ps_ret (pe_callTy call_int_hex (by rfl) T.m_int (by decide +kernel) (pa_cons (pv 0) (pa_cons pe_int pa_nil)))))), ?_⟩
    refine ⟨_, rfl, rfl, _, rfl, ?_⟩
    rw [len_zero]
    unfold hexOf at q
    by_cases h1 : l = []
    · rw [if_pos h1] at q
      rw [decide_eq_true h1]
      exact iteT (iteT (q _ (Same.refl _)))
    · rw [if_neg h1] at q
      rw [decide_eq_false h1]
      refine iteF ⟨_, rfl, _, rfl, hz, _, _, rfl, rfl, _, rfl, ?_⟩
      rw [SX.S_len]
      by_cases h2 : 8 < l.length
      · rw [if_pos h2] at q
        rw [decide_eq_true (by omega)]
        exact iteT (iteT (q _ (Same.refl _)))
      · rw [if_neg h2] at q
        rw [decide_eq_false (by omega)]
        refine iteF ⟨_, rfl, l, HEX, rfl, hl, fun H' sm => ⟨_, rfl, ?_⟩⟩
        show if (!l.all isHx) = true then _ else _
        cases h3 : l.all isHx with
        | false =>
          rw [h3, if_pos rfl] at q
          exact iteT (q _ sm)
        | true =>
          rw [h3, if_neg (by decide)] at q
          exact iteF ⟨_, rfl, l, rfl, h1, by omega, fun c hc => hx_of (List.all_eq_true.mp h3 c hc), q _ sm⟩
theorem dig_of {c : Nat} (h : isDig c = true) : 48 ≤ c ∧ c ≤ 57 := by
  have h2 := of_decide_eq_true h
  have e : DIG.cps.toList = [48, 49, 50, 51, 52, 53, 54, 55, 56, 57] := by decide +kernel
  rw [e] at h2
  simp only [List.mem_cons, List.mem_nil_iff, or_false] at h2
  omega
def decOf (r : List Nat) : Option Int :=
  if 10 < r.length then none else if r.all isDig = false then none
  else if r.head? = some 48 ∧ r ≠ [48] then none else if 4294967295 < ((PySem.NumText.digitsVal r : Nat) : Int) then none else some (PySem.NumText.digitsVal r : Nat)
def sp_decimal_number : Sp := fun vs H Q _ => ∃ l : List Nat, vs = [.str (S l)] ∧ l ≠ [] ∧ l.length ≤ 100000 ∧ ∀ H', Same H H' → Q (optV (decOf l)) H'
theorem ok_decimal_number (T : Top P K mg) : FnOk P w K mg base CX0 2 T.a_decimal_number T.d_decimal_number ["run"]  sp_decimal_number := by
  refine T.F_decimal_number.ok sc_decimal_number (fun vs H Q E h => ?_) (fun cdv A outer s H vs Q E hr h => ?_)
  · obtain ⟨_, rfl, _⟩ := h
    rfl
  · obtain ⟨l, rfl, hne, hl, q⟩ := h
    have hz : (S l).length ≤ sizeLine := by rw [SX.S_len]; exact Nat.le_trans hl (by decide)
    refine ⟨_, (pss_cons (ps_if (pw_or (pt_cmpR op_gt (pe_callB call_len_str (by rfl) T.m_len PySem.boot_len (pa_cons (pv 0) pa_nil)) (pe_gi (by rfl) T.c_LONGEST_DECIMAL) (nomark _)) (pw_or1 (pt_not (pt_val (pe_call (ok__consists_of T) (hr.mono (by decide)) (by rfl) T.g__consists_of T.F__consists_of.kp T.b__consists_of .nil pass0 (pa_cons (pv 0) (pa_cons (pe_gs (by rfl) T.c_DIGITS) pa_nil))))))).pt
  (pss_one (ps_ret pe_non))
  pss_nil)
  (pss_cons (ps_if (pw_and (pt_cmpR op_eq (pe_ix ix_str (pv 0) pe_int (fun _ _ => rfl)) pe_str (nomark _)) (pw_and1 (pt_cmpR op_ne (pv 0) pe_str (nomark _)))).pt
  (pss_one (ps_ret pe_non))
  pss_nil)
  (pss_cons (ps_set (i := 1) sc_decimal_number.nd rfl (by first | exact Or.inl rfl | exact Or.inr rfl) (pe_callTy call_int_str (by rfl) T.m_int (by decide +kernel) (pa_cons (pv 0) pa_nil)))
  (pss_cons (ps_if (pt_cmpR op_gt (pv 1) (pe_gi (by rfl) T.c_GREATEST_WORD) (nomark _))
  (pss_one (ps_ret pe_non))
  pss_nil)
  (pss_one (ps_ret (pv 1))))))), ?_⟩
    unfold decOf at q
    refine ⟨_, rfl, _, rfl, hz, _, _, rfl, rfl, _, rfl, ?_⟩
    rw [SX.S_len]
    by_cases h2 : 10 < l.length
    · rw [if_pos h2] at q
      rw [decide_eq_true (by omega)]
      exact iteT (iteT (q _ (Same.refl _)))
    rw [if_neg h2] at q
    rw [decide_eq_false (by omega)]
    refine iteF ⟨_, rfl, l, DIG, rfl, hl, fun H' sm => ⟨_, rfl, ?_⟩⟩
    show if (!l.all isDig) = true then _ else _
    cases h3 : l.all isDig with
    | false =>
      rw [h3, if_pos rfl] at q
      exact iteT (q _ sm)
    | true =>
    rw [h3, if_neg (by decide)] at q
    refine iteF ?_
    obtain ⟨c, r, rfl⟩ : ∃ c r, l = c :: r := by
      cases l with
      | nil => exact absurd rfl hne
      | cons c r => exact ⟨c, r, rfl⟩
    have e0 : decide (V.str ⟨#[c]⟩ = V.str "0") = decide (c = 48) := sgn_eq (c := c) (d := 48)
    have e1 : decide (V.str (S (c :: r)) = V.str "0") = decide (c :: r = [48]) := by
      by_cases h : c :: r = [48]
      · rw [h]
        rfl
      · rw [decide_eq_false h, decide_eq_false (fun q => h ?_)]
        have e2 := congrArg (fun x : Str => x.cps.toList) (V.str.inj q)
        exact e2
    refine ⟨_, rfl, S (c :: r), 0, c, rfl, rfl, hz, atI_nat (j := 0) rfl, rfl, _, rfl, ?_⟩
    rw [e0]
    have tail : ∀ H', Same H H' → (¬ (c = 48 ∧ c :: r ≠ [48])) → tSeq (tAsg (tCB (fun xs H Q => ∃ a n, xs = [V.str a] ∧ intText? a = some n ∧ a.length ≤ 640 ∧ Q (.int n) H) (tCons (tVar 0) tNil)) (gName 1)) (tSeq (tIfS (tTest (tOp (rI0 fun i j => V.bl (decide (j < i))) (tVar 1) (tC (.int 4294967295)))) (tRet (tC .non)) tNext) (tRet (tVar 1))) { nx := fun _ H' => Q .non H', rt := Q } [some (.str (S (c :: r))), none] H' := fun H' sm hn => by
      have hall : ∀ x ∈ c :: r, 48 ≤ x ∧ x ≤ 57 := fun x hx => dig_of (List.all_eq_true.mp h3 x hx)
      have hint : intText? (S (c :: r)) = some ((PySem.NumText.digitsVal (c :: r) : Nat) : Int) := SX.int_S (by
        rw [List.all_eq_true]
        intro x hx
        have := hall x hx
        rw [decide_eq_true this.1, decide_eq_true this.2]
        rfl) (by simp) (by omega)
      have q2 := q
      rw [if_neg (by
        rintro ⟨h4, h5⟩
        exact hn ⟨Option.some.inj h4, h5⟩)] at q2
      refine ⟨_, rfl, S (c :: r), _, rfl, hint, by rw [SX.S_len]; omega, ?_⟩
      refine ⟨_, rfl, _, _, rfl, rfl, _, rfl, ?_⟩
      by_cases h6 : (4294967295 : Int) < ((PySem.NumText.digitsVal (c :: r) : Nat) : Int)
      · rw [if_pos h6] at q2
        rw [decide_eq_true h6]
        exact iteT (q2 _ sm)
      · rw [if_neg h6] at q2
        rw [decide_eq_false h6]
        exact iteF ⟨_, rfl, q2 _ sm⟩
    by_cases h4 : c = 48
    · rw [decide_eq_true h4]
      refine iteT ⟨_, rfl, rfl, _, rfl, ?_⟩
      rw [e1]
      by_cases h5 : c :: r = [48]
      · rw [decide_eq_true h5]
        exact iteF (tail _ sm (fun z => z.2 h5))
      · rw [decide_eq_false h5]
        rw [if_pos ⟨congrArg some h4, h5⟩] at q
        exact iteT (q _ sm)
    · rw [decide_eq_false h4]
      exact iteF (iteF (tail _ sm (fun z => h4 z.1)))
def sp__number : Sp := fun vs H Q _ => ∃ l : List Nat, vs = [.str (S l)] ∧ l ≠ [] ∧ l.length ≤ 100000 ∧ ∀ H', Same H H' → Q (optV (numOf l)) H'
theorem ok__number (T : Top P K mg) : FnOk P w K mg base CX0 3 T.a__number T.d__number ["run"]  sp__number := by
  refine T.F__number.ok sc__number (fun vs H Q E h => ?_) (fun cdv A outer s H vs Q E hr h => ?_)
  · obtain ⟨_, rfl, _⟩ := h
    rfl
  · obtain ⟨l, rfl, hne, hl, q⟩ := h
    have hz : (S l).length ≤ sizeLine := by rw [SX.S_len]; exact Nat.le_trans hl (by decide)
    refine ⟨_, (pss_cons (ps_if (pt_val (pe_bm PySem.F.plainAttrs_str PySem.F.slot_str_startswith PySem.F.type_str_startswith mt_startswith (pv 0) (pa_cons pe_str pa_nil)))
  (pss_one (ps_ret (pe_call (ok__hex_number T) (hr.mono (by decide)) (by rfl) T.g__hex_number T.F__hex_number.kp T.b__hex_number .nil pass0 (pa_cons (pe_slice sl_str (pv 0) (po_some pe_int) po_none) pa_nil))))
  pss_nil)
  (pss_one (ps_ret (pe_call (ok_decimal_number T) (hr.mono (by decide)) (by rfl) T.g_decimal_number T.F_decimal_number.kp T.b_decimal_number .nil pass0 (pa_cons (pv 0) pa_nil))))), ?_⟩
    refine ⟨_, rfl, rfl, S l, S [48, 120], rfl, rfl, _, rfl, ?_⟩
    rw [starts0]
    unfold numOf at q
    cases h1 : hd [48, 120] l with
    | true =>
      rw [h1, if_pos rfl] at q
      have hlen : 2 ≤ l.length := by
        have := congrArg List.length (beq_iff_eq.mp h1)
        rw [List.length_take] at this
        simp at this
        omega
      refine iteT ⟨_, rfl, _, rfl, S l, rfl, hz, ?_⟩
      have e := cut_from l 2 hlen
      refine ⟨l.drop 2, ?_, by rw [List.length_drop]; omega, q⟩
      exact congrArg (fun z => [V.str z]) e
    | false =>
      rw [h1, if_neg (by decide)] at q
      exact iteF ⟨_, rfl, l, rfl, hne, hl, q⟩
def sp_is_reserved : Sp := fun vs H Q _ => ∃ l : List Nat, vs = [.str (S l)] ∧ Q (.bl (isRes l)) H
theorem ok_is_reserved (T : Top P K mg) : FnOk P w K mg base CX0 1 T.a_is_reserved T.d_is_reserved ["name"]  sp_is_reserved := by
  refine T.F_is_reserved.ok sc_is_reserved (fun vs H Q E h => ?_) (fun cdv A outer s H vs Q E hr h => ?_)
  · obtain ⟨_, rfl, _⟩ := h
    rfl
  · obtain ⟨l, rfl, q⟩ := h
    refine ⟨_, (pss_one (ps_ret (pe_cmpR op_in_seq (pv 0) (pe_gr (by rfl) T.c_RESERVED) (by with_unfolding_all rfl)))), ?_⟩
    exact ⟨_, rfl, T.p_RESERVED, RESV.map V.str, rfl, .inr (T.q_RESERVED _), rfl, rfl, q⟩
end

theorem fold_cat : ∀ (L : List (Array Nat)) (acc : Array Nat), (L.foldl (· ++ ·) acc).toList = acc.toList ++ (L.map Array.toList).flatten
  | [], acc => by simp
  | a :: L, acc => by
    rw [List.foldl_cons, fold_cat L (acc ++ a), List.map_cons, List.flatten_cons, Array.toList_append, List.append_assoc]
theorem mul_S (l : List Nat) (n : Int) (h : 0 ≤ n) : Txt.mul (S l) n = S (List.replicate n.toNat l).flatten := by
  unfold Txt.mul
  by_cases h1 : n < 1
  · have e : n = 0 := by omega
    subst e
    rfl
  · rw [if_neg h1]
    by_cases h2 : (n == 1 || (S l).length == 0) = true
    · rw [if_pos h2]
      rw [Bool.or_eq_true, beq_iff_eq, beq_iff_eq] at h2
      rcases h2 with rfl | h2
      · show S l = S (List.replicate 1 l).flatten
        simp
      · rw [SX.S_len] at h2
        have e : l = [] := List.eq_nil_of_length_eq_zero h2
        subst e
        simp
    · rw [if_neg h2]
      apply TL.ext_tl
      show ((List.replicate n.toNat l.toArray).foldl (· ++ ·) #[]).toList = _
      rw [fold_cat, List.map_replicate]
      rfl
def rMulS : R2 := fun x y H Q => ∃ (l : List Nat) (n : Int), x = .str (S l) ∧ y = .int n ∧ 0 ≤ n ∧ n ≤ 1000 ∧ l.length ≤ 100 ∧ Q (.str (S (List.replicate n.toNat l).flatten)) H
theorem op_mul_str {X : Cx} : OpR X (binaryOp .Mult) rMulS := by
  intro pins s σ H x y v u Q I rx ry h
  obtain ⟨l, n, rfl, rfl, h0, h1, hl, q⟩ := h
  obtain ⟨t, rfl⟩ := rx
  obtain ⟨t', rfl⟩ := ry
  refine SB.mul (mulOk_of 100 1000 (by rw [SX.S_len]; exact hl) (by omega) (by omega) (by decide) (by decide)) fun t2 k => ?_
  rw [mul_S l n h0]
  exact ⟨.str (S (List.replicate n.toNat l).flatten), H, I.tok _, ⟨_, rfl⟩, q⟩
theorem rep_one (k c : Nat) : (List.replicate k [c]).flatten = List.replicate k c := by
  induction k with
  | zero => rfl
  | succ k ih => rw [List.replicate_succ, List.flatten_cons, ih, List.replicate_succ]; rfl

/-! ### the tokens of a text -/
abbrev TV := Str × V × Nat
inductive Lex : List Nat → Nat → List TV → Nat → Prop
  | nil {n : Nat} : Lex [] n [] n
  | nl {r : List Nat} {n e : Nat} {ts : List TV} : Lex r (n + 1) ts e → Lex (10 :: r) n ts e
  | sp {r : List Nat} {n e : Nat} {ts : List TV} : Lex r n ts e → Lex (32 :: r) n ts e
  | cm {r : List Nat} {n e : Nat} {ts : List TV} : Lex (r.dropWhile (· != 10)) n ts e → Lex (35 :: r) n ts e
  | run {c : Nat} {r : List Nat} {n e : Nat} {ts : List TV} {k : Str} {v : V} : (isLet c || isDig c) = true → runTok ((c :: r).takeWhile inRun) = some (k, v) → Lex ((c :: r).dropWhile inRun) n ts e → Lex (c :: r) n ((k, v, n) :: ts) e
  | sgn {c : Nat} {r : List Nat} {n e : Nat} {ts : List TV} {z : Str} : c ≠ 10 → c ≠ 32 → c ≠ 35 → (isLet c || isDig c) = false → signOf (c :: r) = some z → Lex ((c :: r).drop z.length) n ts e → Lex (c :: r) n ((("sign" : Str), V.str z, n) :: ts) e
def endT (e : Nat) : TV := (("end" : Str), V.str "", e)
def ToksAt (H : Hp) : List Addr → List TV → Prop
  | [], [] => True
  | a :: as, t :: ts => H a = some (.tup [.str t.1, t.2.1, .int (t.2.2 : Int)]) ∧ ToksAt H as ts
  | _, _ => False
theorem ToksAt.mono {H H' : Hp} (h : ∀ a xs, H a = some (.tup xs) → H' a = some (.tup xs)) : ∀ {as : List Addr} {ts : List TV}, ToksAt H as ts → ToksAt H' as ts
  | [], [], _ => trivial
  | a :: as, t :: ts, x => ⟨h _ _ x.1, ToksAt.mono h x.2⟩
  | [], _ :: _, x => x.elim
  | _ :: _, [], x => x.elim
theorem ToksAt.snoc {H : Hp} {a : Addr} {t : TV} (h : H a = some (.tup [.str t.1, t.2.1, .int (t.2.2 : Int)])) : ∀ {as : List Addr} {ts : List TV}, ToksAt H as ts → ToksAt H (as ++ [a]) (ts ++ [t])
  | [], [], _ => ⟨h, trivial⟩
  | b :: as, u :: ts, x => ⟨x.1, ToksAt.snoc h x.2⟩
  | [], _ :: _, x => x.elim
  | _ :: _, [], x => x.elim
theorem ToksAt.len {H : Hp} : ∀ {as : List Addr} {ts : List TV}, ToksAt H as ts → as.length = ts.length
  | [], [], _ => rfl
  | b :: as, u :: ts, x => by rw [List.length_cons, List.length_cons, ToksAt.len x.2]
  | [], _ :: _, x => x.elim
  | _ :: _, [], x => x.elim
theorem run_pos {c : Nat} {r : List Nat} (h : (isLet c || isDig c) = true) : ∃ r', (c :: r).takeWhile inRun = c :: r' := by
  have h2 : inRun c = true := by
    unfold inRun
    cases h1 : isLet c with
    | true => rfl
    | false =>
      rw [h1, Bool.false_or] at h
      rw [h]
      rfl
  exact ⟨r.takeWhile inRun, by rw [List.takeWhile_cons, h2]; rfl⟩
theorem sign_pos {l : List Nat} {z : Str} (h : signOf l = some z) : 1 ≤ z.length ∧ z.length ≤ l.length := by
  have h1 := List.mem_of_find?_eq_some h
  have h2 := List.find?_some h
  have h3 : SIGV.all (fun z => decide (1 ≤ z.length)) = true := by decide +kernel
  have h4 := of_decide_eq_true (List.all_eq_true.mp h3 z h1)
  refine ⟨h4, ?_⟩
  have h5 := congrArg List.length (beq_iff_eq.mp h2)
  rw [List.length_take] at h5
  have h6 : z.cps.toList.length = z.length := by simp [Str.length]
  omega

/-! ### texts with a fault -/
inductive LexE : List Nat → Nat → Nat → Prop
  | nl {r : List Nat} {n e : Nat} : LexE r (n + 1) e → LexE (10 :: r) n e
  | sp {r : List Nat} {n e : Nat} : LexE r n e → LexE (32 :: r) n e
  | cm {r : List Nat} {n e : Nat} : LexE (r.dropWhile (· != 10)) n e → LexE (35 :: r) n e
  | run {c : Nat} {r : List Nat} {n e : Nat} {k : Str} {v : V} : (isLet c || isDig c) = true → runTok ((c :: r).takeWhile inRun) = some (k, v) → LexE ((c :: r).dropWhile inRun) n e → LexE (c :: r) n e
  | sgn {c : Nat} {r : List Nat} {n e : Nat} {z : Str} : c ≠ 10 → c ≠ 32 → c ≠ 35 → (isLet c || isDig c) = false → signOf (c :: r) = some z → LexE ((c :: r).drop z.length) n e → LexE (c :: r) n e
  | badRun {c : Nat} {r : List Nat} {n : Nat} : (isLet c || isDig c) = true → runTok ((c :: r).takeWhile inRun) = none → LexE (c :: r) n n
  | badSgn {c : Nat} {r : List Nat} {n : Nat} : c ≠ 10 → c ≠ 32 → c ≠ 35 → (isLet c || isDig c) = false → signOf (c :: r) = none → LexE (c :: r) n n
/-- what becomes of the rest of a text: its tokens behind those that are done, or the line of its fault -/
def Going : Option (List TV) → Nat → List TV → List Nat → Nat → Prop
  | some ts, e, done, l, n => ∃ rest, done ++ rest = ts ∧ Lex l n rest e
  | none, e, _, l, n => LexE l n e
theorem no10 : (isLet 10 || isDig 10) = false := by decide +kernel
theorem no32 : (isLet 32 || isDig 32) = false := by decide +kernel
theorem no35 : (isLet 35 || isDig 35) = false := by decide +kernel
theorem go_nl {m : Option (List TV)} {e n : Nat} {done : List TV} {r : List Nat} (h : Going m e done (10 :: r) n) : Going m e done r (n + 1) := by
  cases m with
  | some ts =>
    obtain ⟨rest, ho, h2⟩ := h
    refine ⟨rest, ho, ?_⟩
    cases h2 with
    | nl h => exact h
    | run h1 => rw [no10] at h1; cases h1
    | sgn h1 => exact absurd rfl h1
  | none =>
    cases (show LexE _ _ _ from h) with
    | nl h => exact h
    | run h1 => rw [no10] at h1; cases h1
    | sgn h1 => exact absurd rfl h1
    | badRun h1 => rw [no10] at h1; cases h1
    | badSgn h1 => exact absurd rfl h1
theorem go_sp {m : Option (List TV)} {e n : Nat} {done : List TV} {r : List Nat} (h : Going m e done (32 :: r) n) : Going m e done r n := by
  cases m with
  | some ts =>
    obtain ⟨rest, ho, h2⟩ := h
    refine ⟨rest, ho, ?_⟩
    cases h2 with
    | sp h => exact h
    | run h1 => rw [no32] at h1; cases h1
    | sgn _ h1 => exact absurd rfl h1
  | none =>
    cases (show LexE _ _ _ from h) with
    | sp h => exact h
    | run h1 => rw [no32] at h1; cases h1
    | sgn _ h1 => exact absurd rfl h1
    | badRun h1 => rw [no32] at h1; cases h1
    | badSgn _ h1 => exact absurd rfl h1
theorem go_cm {m : Option (List TV)} {e n : Nat} {done : List TV} {r : List Nat} (h : Going m e done (35 :: r) n) : Going m e done (r.dropWhile (· != 10)) n := by
  cases m with
  | some ts =>
    obtain ⟨rest, ho, h2⟩ := h
    refine ⟨rest, ho, ?_⟩
    cases h2 with
    | cm h => exact h
    | run h1 => rw [no35] at h1; cases h1
    | sgn _ _ h1 => exact absurd rfl h1
  | none =>
    cases (show LexE _ _ _ from h) with
    | cm h => exact h
    | run h1 => rw [no35] at h1; cases h1
    | sgn _ _ h1 => exact absurd rfl h1
    | badRun h1 => rw [no35] at h1; cases h1
    | badSgn _ _ h1 => exact absurd rfl h1
theorem go_run {m : Option (List TV)} {e n c : Nat} {done : List TV} {r : List Nat} (hc : (isLet c || isDig c) = true) (h : Going m e done (c :: r) n) :
    (∃ k v, runTok ((c :: r).takeWhile inRun) = some (k, v) ∧ Going m e (done ++ [(k, v, n)]) ((c :: r).dropWhile inRun) n) ∨ (runTok ((c :: r).takeWhile inRun) = none ∧ m = none ∧ e = n) := by
  cases m with
  | some ts =>
    obtain ⟨rest, ho, h2⟩ := h
    cases h2 with
    | nl => rw [no10] at hc; cases hc
    | sp => rw [no32] at hc; cases hc
    | cm => rw [no35] at hc; cases hc
    | run h1' h2' h3' => exact .inl ⟨_, _, h2', _, by rw [List.append_assoc]; exact ho, h3'⟩
    | sgn _ _ _ hq => rw [hc] at hq; cases hq
  | none =>
    cases (show LexE _ _ _ from h) with
    | nl => rw [no10] at hc; cases hc
    | sp => rw [no32] at hc; cases hc
    | cm => rw [no35] at hc; cases hc
    | run h1' h2' h3' => exact .inl ⟨_, _, h2', h3'⟩
    | sgn _ _ _ hq => rw [hc] at hq; cases hq
    | badRun _ hq => exact .inr ⟨hq, rfl, rfl⟩
    | badSgn _ _ _ hq => rw [hc] at hq; cases hq
theorem go_sgn {m : Option (List TV)} {e n c : Nat} {done : List TV} {r : List Nat} (c1 : c ≠ 10) (c2 : c ≠ 32) (c3 : c ≠ 35) (hc : (isLet c || isDig c) = false) (h : Going m e done (c :: r) n) :
    (∃ z, signOf (c :: r) = some z ∧ Going m e (done ++ [(("sign" : Str), V.str z, n)]) ((c :: r).drop z.length) n) ∨ (signOf (c :: r) = none ∧ m = none ∧ e = n) := by
  cases m with
  | some ts =>
    obtain ⟨rest, ho, h2⟩ := h
    cases h2 with
    | nl => exact absurd rfl c1
    | sp => exact absurd rfl c2
    | cm => exact absurd rfl c3
    | run hq => rw [hc] at hq; cases hq
    | sgn _ _ _ _ h2' h3' => exact .inl ⟨_, h2', _, by rw [List.append_assoc]; exact ho, h3'⟩
  | none =>
    cases (show LexE _ _ _ from h) with
    | nl => exact absurd rfl c1
    | sp => exact absurd rfl c2
    | cm => exact absurd rfl c3
    | run hq => rw [hc] at hq; cases hq
    | sgn _ _ _ _ h2' h3' => exact .inl ⟨_, h2', h3'⟩
    | badRun hq => rw [hc] at hq; cases hq
    | badSgn _ _ _ _ hq => exact .inr ⟨hq, rfl, rfl⟩
theorem go_nil {m : Option (List TV)} {e n : Nat} {done : List TV} (h : Going m e done [] n) : m = some done ∧ e = n := by
  cases m with
  | some ts =>
    obtain ⟨rest, h1, h2⟩ := h
    cases h2
    rw [List.append_nil] at h1
    rw [h1]
    exact ⟨rfl, rfl⟩
  | none => cases (show LexE _ _ _ from h)
theorem line_small {m : Nat} (h : m ≤ 200000) : ((m : Int).natAbs).log2 < 1920 := by
  have e : ((m : Int).natAbs) = m := by omega
  rw [e]
  have hlt : m < 2 ^ 32 := by omega
  by_cases h0 : m = 0
  · rw [h0]
    decide
  · exact Nat.lt_trans ((Nat.log2_lt h0).mpr hlt) (by decide)
theorem line_len {m : Nat} (h : m ≤ 200000) : (Str.ofString (toString ((m : Nat) : Int))).length ≤ 10000 := by
  rw [SX.num_S m, SX.S_len]
  exact Nat.le_trans (TL.numL_len (k := 10) (by decide) (by omega)) (by decide)
/-! ### what stands ahead of the part -/
structure Pre (l : List Nat) (k : Nat) : Prop where
  bad : ∀ t n e, LexE t (n + k) e → LexE (l ++ t) n e
  good : ∀ t n, (∃ ts e, Lex t (n + k) ts e) → ∃ ts e, Lex (l ++ t) n ts e
  cnt : l.countP (· == 10) = k
theorem Pre.nil : Pre [] 0 := ⟨fun _ _ _ h => h, fun _ _ h => h, rfl⟩
theorem Pre.app {a b : List Nat} {i j : Nat} (h1 : Pre a i) (h2 : Pre b j) : Pre (a ++ b) (i + j) := by
  refine ⟨fun t n e h => ?_, fun t n h => ?_, ?_⟩
  · rw [List.append_assoc]
    exact h1.bad _ _ _ (h2.bad _ _ _ (by rw [Nat.add_assoc]; exact h))
  · rw [List.append_assoc]
    exact h1.good _ _ (h2.good _ _ (by rw [Nat.add_assoc]; exact h))
  · rw [List.countP_append, h1.cnt, h2.cnt]
theorem pre_nl : Pre [10] 1 := ⟨fun _ _ _ h => .nl h, fun _ _ ⟨ts, e, h⟩ => ⟨ts, e, .nl h⟩, rfl⟩
theorem pre_sp : Pre [32] 0 := ⟨fun _ _ _ h => .sp h, fun _ _ ⟨ts, e, h⟩ => ⟨ts, e, .sp h⟩, rfl⟩
theorem pre_sps : ∀ k, Pre (List.replicate k 32) 0
  | 0 => .nil
  | k + 1 => Pre.app pre_sp (pre_sps k)
theorem tw_app {r t : List Nat} (h : ∀ x ∈ r, inRun x = true) (ht : t = [] ∨ ∃ c t', t = c :: t' ∧ inRun c = false) : (r ++ t).takeWhile inRun = r ∧ (r ++ t).dropWhile inRun = t := by
  induction r with
  | nil =>
    rcases ht with rfl | ⟨c, t', rfl, hc⟩
    · exact ⟨rfl, rfl⟩
    · exact ⟨by show (c :: t').takeWhile inRun = []; rw [List.takeWhile_cons, hc]; rfl, by show (c :: t').dropWhile inRun = c :: t'; rw [List.dropWhile_cons, hc]; rfl⟩
  | cons a r ih =>
    have h1 := h a List.mem_cons_self
    obtain ⟨i1, i2⟩ := ih fun x hx => h x (List.mem_cons_of_mem _ hx)
    refine ⟨?_, ?_⟩
    · show (a :: (r ++ t)).takeWhile inRun = _
      rw [List.takeWhile_cons, h1, if_pos rfl, i1]
    · show (a :: (r ++ t)).dropWhile inRun = _
      rw [List.dropWhile_cons, h1, if_pos rfl, i2]
theorem nl_out : inRun 10 = false := by decide +kernel
theorem pre_run {c : Nat} {r : List Nat} {k : Str} {v : V} (hc : (isLet c || isDig c) = true) (hr : ∀ x ∈ c :: r, inRun x = true) (ht : runTok (c :: r) = some (k, v)) : Pre ((c :: r) ++ [10]) 1 := by
  have key : ∀ t, ((c :: r) ++ (10 :: t)).takeWhile inRun = c :: r ∧ ((c :: r) ++ (10 :: t)).dropWhile inRun = 10 :: t := fun t => tw_app hr (.inr ⟨10, t, rfl, nl_out⟩)
  refine ⟨fun t n e h => ?_, fun t n ⟨ts, e, h⟩ => ?_, ?_⟩
  · rw [List.append_assoc]
    show LexE (c :: (r ++ (10 :: t))) n e
    refine .run hc (k := k) (v := v) ?_ ?_
    · have := (key t).1
      exact (congrArg runTok this).trans ht
    · have e2 : (c :: (r ++ (10 :: t))).dropWhile inRun = 10 :: t := (key t).2
      rw [e2]
      exact .nl h
  · rw [List.append_assoc]
    refine ⟨(k, v, n) :: ts, e, ?_⟩
    show Lex (c :: (r ++ (10 :: t))) n _ e
    refine .run hc ?_ ?_
    · have := (key t).1
      exact (congrArg runTok this).trans ht
    · have e2 : (c :: (r ++ (10 :: t))).dropWhile inRun = 10 :: t := (key t).2
      rw [e2]
      exact .nl h
  · rw [List.countP_append]
    have e0 : (c :: r).countP (· == 10) = 0 := by
      rw [List.countP_eq_zero]
      intro x hx h10
      have : x = 10 := by simpa using h10
      have h2 := hr x hx
      rw [this, nl_out] at h2
      cases h2
    rw [e0]
    rfl
theorem pre_sgn {c : Nat} {r : List Nat} {z : Str} (c1 : c ≠ 10) (c2 : c ≠ 32) (c3 : c ≠ 35) (hc : (isLet c || isDig c) = false) (hz : ∀ t, signOf ((c :: r) ++ (10 :: t)) = some z) (hl : z.length = (c :: r).length) (hn : (c :: r).countP (· == 10) = 0) : Pre ((c :: r) ++ [10]) 1 := by
  have hd : ∀ t, ((c :: r) ++ (10 :: t)).drop z.length = 10 :: t := fun t => by rw [hl]; exact List.drop_left
  refine ⟨fun t n e h => ?_, fun t n ⟨ts, e, h⟩ => ?_, ?_⟩
  · rw [List.append_assoc]
    show LexE (c :: (r ++ (10 :: t))) n e
    refine .sgn c1 c2 c3 hc (hz t) ?_
    have := hd t
    rw [show (c :: (r ++ (10 :: t))) = (c :: r) ++ (10 :: t) from rfl, this]
    exact .nl h
  · rw [List.append_assoc]
    refine ⟨(("sign" : Str), V.str z, n) :: ts, e, ?_⟩
    show Lex (c :: (r ++ (10 :: t))) n _ e
    refine .sgn c1 c2 c3 hc (hz t) (ts := ts) ?_
    have := hd t
    rw [show (c :: (r ++ (10 :: t))) = (c :: r) ++ (10 :: t) from rfl, this]
    exact .nl h
  · rw [List.countP_append, hn]
    rfl
def GOODS : List Str := ["a", "loop", "x1_", ":=", "7", "0x1f", ";", "(", ")", "~<=", "<<", "mod", "0", "4294967295", "# 007 $"]
theorem pre_good {z : Str} (h : z ∈ GOODS) : Pre (z.cps.toList ++ [10]) 1 := by
  simp only [GOODS, List.mem_cons, List.not_mem_nil, or_false] at h
  rcases h with rfl | rfl | rfl | rfl | rfl | rfl | rfl | rfl | rfl | rfl | rfl | rfl | rfl | rfl | rfl
  · exact pre_run (c := 97) (r := []) (k := "name") (v := .str (S [97])) (by decide +kernel) (by decide +kernel) (by decide +kernel)
  · exact pre_run (c := 108) (r := [111, 111, 112]) (k := "word") (v := .str (S [108, 111, 111, 112])) (by decide +kernel) (by decide +kernel) (by decide +kernel)
  · exact pre_run (c := 120) (r := [49, 95]) (k := "name") (v := .str (S [120, 49, 95])) (by decide +kernel) (by decide +kernel) (by decide +kernel)
  · exact pre_sgn (c := 58) (r := [61]) (z := ":=") (by decide) (by decide) (by decide) (by decide +kernel) (fun t => rfl) rfl (by decide)
  · exact pre_run (c := 55) (r := []) (k := "number") (v := .int 7) (by decide +kernel) (by decide +kernel) (by decide +kernel)
  · exact pre_run (c := 48) (r := [120, 49, 102]) (k := "number") (v := .int 31) (by decide +kernel) (by decide +kernel) (by decide +kernel)
  · exact pre_sgn (c := 59) (r := []) (z := ";") (by decide) (by decide) (by decide) (by decide +kernel) (fun t => rfl) rfl (by decide)
  · exact pre_sgn (c := 40) (r := []) (z := "(") (by decide) (by decide) (by decide) (by decide +kernel) (fun t => rfl) rfl (by decide)
  · exact pre_sgn (c := 41) (r := []) (z := ")") (by decide) (by decide) (by decide) (by decide +kernel) (fun t => rfl) rfl (by decide)
  · exact pre_sgn (c := 126) (r := [60, 61]) (z := "~<=") (by decide) (by decide) (by decide) (by decide +kernel) (fun t => rfl) rfl (by decide)
  · exact pre_sgn (c := 60) (r := [60]) (z := "<<") (by decide) (by decide) (by decide) (by decide +kernel) (fun t => rfl) rfl (by decide)
  · exact pre_run (c := 109) (r := [111, 100]) (k := "word") (v := .str (S [109, 111, 100])) (by decide +kernel) (by decide +kernel) (by decide +kernel)
  · exact pre_run (c := 48) (r := []) (k := "number") (v := .int 0) (by decide +kernel) (by decide +kernel) (by decide +kernel)
  · exact pre_run (c := 52) (r := [50, 57, 52, 57, 54, 55, 50, 57, 53]) (k := "number") (v := .int 4294967295) (by decide +kernel) (by decide +kernel) (by decide +kernel)
  · exact ⟨fun t n e h => .cm (.nl h), fun t n ⟨ts, e, h⟩ => ⟨ts, e, .cm (.nl h)⟩, rfl⟩

end Mine

set_option Elab.async false
set_option linter.all false
set_option maxRecDepth 100000
set_option maxHeartbeats 4000000


namespace Mine
open PySem PySem.Spec PyProof.Rows L2
theorem msg_line {P : Program} {w : World} {K : PySem.W.Frag} {mg : Str → Option Value} {base : Heap} (T : Top P K mg) {CX : CXT} {N : List Str} {qual : Str} {scope : Scope} {f : Addr} {cd : Value} {A : Around} {outer : List Env} {s : Shared} {H : Hp} {E : XK} {mp : Pos} {m : Nat} (h : m ≤ 200000) :
    MsgV (cxOf CX P w K mg base N qual scope f cd A outer s H E) 1 [("decimal", .globalImplicit)] parts_TextError mp "line" (.int (m : Int)) :=
  have hb : (m : Int).natAbs < 2 ^ 1048576 := Nat.lt_of_le_of_lt (show (m : Int).natAbs ≤ 200000 by omega) (Nat.lt_of_lt_of_le (show 200000 < 2 ^ 18 by decide) (Nat.pow_le_pow_right (by decide) (by decide)))
  msg_dec3 (X := cxOf CX P w K mg base N qual scope f cd A outer s H E) (ok_decimal T) T.g_decimal T.F_decimal.kp T.b_decimal (fun Q E q => ⟨_, rfl, hb, fun z H' hz _ _ => q z H' hz⟩) rfl rfl (by decide) (fun _ => rfl) (by decide)
section
variable {P : Program} {w : World} {K : PySem.W.Frag} {mg : Str → Option Value} {base : Heap}
/-- an error of the class at C, its line n, in a new dict; what was there stands -/
def ErrOut (C : Addr) (n : Nat) (H : Hp) (E : XK) : Prop := ∀ H' d, Same H H' → H d = none → H' d = some (.xd [(("line" : Str), .int (n : Int))]) → E (.ref C) (some d) H'
def sp__run_token (C : Addr) : Sp := fun vs H Q E => ∃ (l : List Nat) (n : Nat), vs = [.str (S l), .int (n : Int)] ∧ l ≠ [] ∧ l.length ≤ 100000 ∧ n ≤ 200000 ∧
  (∀ k v, runTok l = some (k, v) → ∀ H' t, Same H H' → H t = none → H' t = some (.tup [.str k, v, .int (n : Int)]) → Q (.ref t) H') ∧ (runTok l = none → ErrOut C n H E)
theorem ok__run_token (T : Top P K mg) : FnOk P w K mg base (L2.CX P w) 4 T.a__run_token T.d__run_token ["run", "line"]  (sp__run_token T.C_TextError) := by
  refine T.F__run_token.okX sc__run_token (fun vs H Q E h => ?_) (fun cdv A outer s H vs Q E hr h => ?_)
  · obtain ⟨_, _, rfl, _⟩ := h
    rfl
  · obtain ⟨l, n, rfl, hne, hl, hn, q, qe⟩ := h
    have hz : (S l).length ≤ sizeLine := by rw [SX.S_len]; exact Nat.le_trans hl (by decide)
    obtain ⟨c, r, rfl⟩ : ∃ c r, l = c :: r := by
      cases l with
      | nil => exact absurd rfl hne
      | cons c r => exact ⟨c, r, rfl⟩
    have ht' : runTok (c :: r) = (if isDig c = true then (numOf (c :: r)).map fun n => (("number" : Str), V.int n) else if 16 < (c :: r).length then none else if isRes (c :: r) = true then some ("word", .str (S (c :: r))) else some ("name", .str (S (c :: r)))) := rfl
    have fly : ∀ H1, Same H H1 → runTok (c :: r) = none → ∀ d, H1 d = none → E (.ref T.C_TextError) (some d) (upd H1 d (.xd [(("line" : Str), .int (n : Int))])) := fun H1 sm hb d hd =>
      qe hb _ d (sm.trans (same_new hd)) (sm.free hd) upd_same
    refine ⟨_, (pss_cons (ps_if (pt_cmpR op_in_sign (pe_ix ix_str (pv 0) pe_int (fun _ _ => rfl)) (pe_gs (by rfl) T.c_DIGITS) (by with_unfolding_all rfl))
  (pss_cons (ps_set (i := 2) sc__run_token.nd rfl (by first | exact Or.inl rfl | exact Or.inr rfl) (pe_call (ok__number T) (hr.mono (by decide)) (by rfl) T.g__number T.F__number.kp T.b__number .nil pass0 (pa_cons (pv 0) pa_nil)))
  (pss_cons (ps_if (pt_cmpR op_isN (pv 2) pe_non (nomark _))
  (pss_one (ps_raiseErr (lv := 1) rfl T.x_TextError fo_TextError hr (takes_of rfl rfl rfl rfl) (pa_cons (pv 1) pa_nil)))
  pss_nil)
  (pss_one (ps_ret (pe_tup (pa_cons pe_str (pa_cons (pv 2) (pa_cons (pv 1) pa_nil))))))))
  pss_nil)
  (pss_cons (ps_if (pt_cmpR op_gt (pe_callB call_len_str (by rfl) T.m_len PySem.boot_len (pa_cons (pv 0) pa_nil)) (pe_gi (by rfl) T.c_LONGEST_NAME) (nomark _))
  (pss_one (ps_raiseErr (lv := 1) rfl T.x_TextError fo_TextError hr (takes_of rfl rfl rfl rfl) (pa_cons (pv 1) pa_nil)))
  pss_nil)
  (pss_cons (ps_if (pt_val (pe_call (ok_is_reserved T) (hr.mono (by decide)) (by rfl) T.g_is_reserved T.F_is_reserved.kp T.b_is_reserved .nil pass0 (pa_cons (pv 0) pa_nil)))
  (pss_one (ps_ret (pe_tup (pa_cons pe_str (pa_cons (pv 0) (pa_cons (pv 1) pa_nil))))))
  pss_nil)
  (pss_one (ps_ret (pe_tup (pa_cons pe_str (pa_cons (pv 0) (pa_cons (pv 1) pa_nil))))))))), ?_⟩
    refine ⟨_, rfl, S (c :: r), 0, c, rfl, rfl, hz, atI_nat (j := 0) rfl, c, DIG, rfl, rfl, _, rfl, ?_⟩
    show if isDig c = true then _ else _
    cases h1 : isDig c with
    | true =>
      rw [h1, if_pos rfl] at ht'
      refine iteT ⟨_, rfl, c :: r, rfl, by simp, hl, fun H1 s1 => ?_⟩
      cases h2 : numOf (c :: r) with
      | none =>
        rw [h2] at ht'
        exact ⟨_, rfl, rfl, _, rfl, iteT ⟨_, rfl, _, rfl, msg_line T hn, fun d hd => fly H1 s1 ht' d hd⟩⟩
      | some m =>
        rw [h2] at ht'
        refine ⟨_, rfl, rfl, _, rfl, iteF ⟨_, rfl, _, rfl, by show 3 ≤ sizeLine; decide, fun t nt => ?_⟩⟩
        exact q _ _ ht' _ _ (s1.trans (same_new nt)) (s1.free nt) upd_same
    | false =>
      rw [h1, if_neg (by decide)] at ht'
      refine iteF ⟨_, rfl, _, rfl, hz, _, _, rfl, rfl, _, rfl, ?_⟩
      rw [SX.S_len]
      by_cases h2 : 16 < (c :: r).length
      · rw [if_pos h2] at ht'
        rw [decide_eq_true (by omega)]
        exact iteT ⟨_, rfl, _, rfl, msg_line T hn, fun d hd => fly H (Same.refl _) ht' d hd⟩
      rw [if_neg h2] at ht'
      rw [decide_eq_false (by omega)]
      refine iteF ⟨_, rfl, c :: r, rfl, _, rfl, ?_⟩
      cases h3 : isRes (c :: r) with
      | true =>
        rw [h3, if_pos rfl] at ht'
        refine iteT ⟨_, rfl, _, rfl, by show 3 ≤ sizeLine; decide, fun t nt => ?_⟩
        exact q _ _ ht' _ _ (same_new nt) nt upd_same
      | false =>
        rw [h3, if_neg (by decide)] at ht'
        refine iteF ⟨_, rfl, _, rfl, by show 3 ≤ sizeLine; decide, fun t nt => ?_⟩
        exact q _ _ ht' _ _ (same_new nt) nt upd_same
def sp_tokenize (C : Addr) : Sp := fun vs H Q E => ∃ (l : List Nat) (mo : Option (List TV)) (e : Nat), vs = [.str (S l)] ∧ l.length ≤ 100000 ∧ Going mo e [] l 1 ∧
  (∀ (ts : List TV) (H' : Hp) (p : Addr) (as : List Addr), mo = some ts → Same H H' → H p = none → H' p = some (.lst (as.map V.ref)) → as.length = ts.length + 1 → Q (.ref p) H') ∧ (mo = none → ErrOut C e H E)
theorem ok_tokenize (T : Top P K mg) : FnOk P w K mg base (L2.CX P w) 5 T.a_tokenize T.d_tokenize ["text"]  (sp_tokenize T.C_TextError) := by
  refine T.F_tokenize.okX sc_tokenize (fun vs H Q E h => ?_) (fun cdv A outer s H vs Q E hr h => ?_)
  · obtain ⟨_, _, _, rfl, _⟩ := h
    rfl
  · obtain ⟨l, mo, e, rfl, hl, hgo, q, qe⟩ := h
    have hz : (S l).length ≤ sizeLine := by rw [SX.S_len]; exact Nat.le_trans hl (by decide)
    refine ⟨_, (pss_cons (ps_set (i := 1) sc_tokenize.nd rfl (by first | exact Or.inl rfl | exact Or.inr rfl) (pe_lst pa_nil))
  (pss_cons (ps_set (i := 2) sc_tokenize.nd rfl (by first | exact Or.inl rfl | exact Or.inr rfl) pe_int)
  (pss_cons (ps_set (i := 3) sc_tokenize.nd rfl (by first | exact Or.inl rfl | exact Or.inr rfl) pe_int)
  (pss_cons (ps_while (passes_of rfl) (pt_cmpR op_lt (pv 3) (pe_callB call_len_str (by rfl) T.m_len PySem.boot_len (pa_cons (pv 0) pa_nil)) (nomark _))
  (pss_cons (ps_set (i := 4) sc_tokenize.nd rfl (by first | exact Or.inl rfl | exact Or.inr rfl) (pe_ix ix_str (pv 0) (pv 3) (fun _ _ => rfl)))
  (pss_one (ps_if (pt_cmpR op_eq (pv 4) pe_str (nomark _))
  (pss_cons (ps_aug (i := 2) sc_tokenize.nd rfl (by first | exact Or.inl rfl | exact Or.inr rfl) pe_int ip_add)
  (pss_one (ps_aug (i := 3) sc_tokenize.nd rfl (by first | exact Or.inl rfl | exact Or.inr rfl) pe_int ip_add)))
  (pss_one (ps_if (pt_cmpR op_eq (pv 4) pe_str (nomark _))
  (pss_one (ps_aug (i := 3) sc_tokenize.nd rfl (by first | exact Or.inl rfl | exact Or.inr rfl) pe_int ip_add))
  (pss_one (ps_if (pt_cmpR op_eq (pv 4) pe_str (nomark _))
  (pss_one (ps_set (i := 3) sc_tokenize.nd rfl (by first | exact Or.inl rfl | exact Or.inr rfl) (pe_call (ok__comment_end T) (hr.mono (by decide)) (by rfl) T.g__comment_end T.F__comment_end.kp T.b__comment_end .nil pass0 (pa_cons (pv 0) (pa_cons (pv 3) pa_nil)))))
  (pss_one (ps_if (pw_or (pt_cmpR op_in_sign (pv 4) (pe_gs (by rfl) T.c_LETTERS) (by with_unfolding_all rfl)) (pw_or1 (pt_cmpR op_in_sign (pv 4) (pe_gs (by rfl) T.c_DIGITS) (by with_unfolding_all rfl)))).pt
  (pss_cons (ps_set (i := 5) sc_tokenize.nd rfl (by first | exact Or.inl rfl | exact Or.inr rfl) (pe_call (ok__run T) (hr.mono (by decide)) (by rfl) T.g__run T.F__run.kp T.b__run .nil pass0 (pa_cons (pv 0) (pa_cons (pv 3) pa_nil))))
  (pss_cons (ps_expr (pe_bm PySem.F.plainAttrs_list PySem.F.slot_list_append PySem.F.type_list_append mt_append (pv 1) (pa_cons (pe_callS (ok__run_token T) (hr.mono (by decide)) (by rfl) T.g__run_token T.F__run_token.kp T.b__run_token (fun σ => passAt (takes_of rfl rfl rfl rfl) σ) (pa_cons (pv 5) (pa_cons (pv 2) pa_nil))) pa_nil)))
  (pss_one (ps_aug (i := 3) sc_tokenize.nd rfl (by first | exact Or.inl rfl | exact Or.inr rfl) (pe_callB call_len_str (by rfl) T.m_len PySem.boot_len (pa_cons (pv 5) pa_nil)) ip_add))))
  (pss_cons (ps_set (i := 6) sc_tokenize.nd rfl (by first | exact Or.inl rfl | exact Or.inr rfl) (pe_call (ok__longest_sign T) (hr.mono (by decide)) (by rfl) T.g__longest_sign T.F__longest_sign.kp T.b__longest_sign .nil pass0 (pa_cons (pv 0) (pa_cons (pv 3) pa_nil))))
  (pss_cons (ps_if (pt_cmpR op_eq (pv 6) pe_str (nomark _))
  (pss_one (ps_raiseErr (lv := 1) rfl T.x_TextError fo_TextError hr (takes_of rfl rfl rfl rfl) (pa_cons (pv 2) pa_nil)))
  pss_nil)
  (pss_cons (ps_expr (pe_bm PySem.F.plainAttrs_list PySem.F.slot_list_append PySem.F.type_list_append mt_append (pv 1) (pa_cons (pe_tup (pa_cons pe_str (pa_cons (pv 6) (pa_cons (pv 2) pa_nil)))) pa_nil)))
  (pss_one (ps_aug (i := 3) sc_tokenize.nd rfl (by first | exact Or.inl rfl | exact Or.inr rfl) (pe_callB call_len_str (by rfl) T.m_len PySem.boot_len (pa_cons (pv 6) pa_nil)) ip_add)))))))))))))))
  (pss_cons (ps_expr (pe_bm PySem.F.plainAttrs_list PySem.F.slot_list_append PySem.F.type_list_append mt_append (pv 1) (pa_cons (pe_tup (pa_cons pe_str (pa_cons pe_str (pa_cons (pv 2) pa_nil)))) pa_nil)))
  (pss_one (ps_ret (pv 1)))))))), ?_⟩
    refine ⟨Nat.zero_le _, fun p np => ?_⟩
    have lp : ∀ {H' : Hp} {as : List Addr} {b : Addr} {xs : List V}, H' p = some (.lst (as.map V.ref)) → H' b = some (.tup xs) → b ≠ p := fun h1 h2 z => by
      rw [z, h1] at h2
      cases h2
    refine ⟨fun m σ H' => ∃ (i n : Nat) (as : List Addr) (done : List TV) (y4 y5 y6 : Option V), m = l.length - i ∧ i ≤ l.length ∧ n ≤ i + 1 ∧ as.length ≤ i ∧ Going mo e done (l.drop i) n ∧
      σ = [some (.str (S l)), some (.ref p), some (.int (n : Int)), some (.int (i : Int)), y4, y5, y6] ∧ Same H H' ∧ H' p = some (.lst (as.map V.ref)) ∧ as.length = done.length,
      ⟨_, 0, 1, [], [], none, none, none, rfl, Nat.zero_le _, Nat.le_refl _, Nat.zero_le _, hgo, rfl, same_new np, upd_same, rfl⟩, ?_⟩
    rintro m σ H' ⟨i, n, as, done, y4, y5, y6, rfl, hi, hni, has, hx, rfl, sm, hp, hT⟩
    have fly : ∀ H1, Same H H1 → mo = none → e = n → ∀ d, H1 d = none → E (.ref T.C_TextError) (some d) (upd H1 d (.xd [(("line" : Str), .int (n : Int))])) := fun H1 sm hb he d hd =>
      qe hb _ d (sm.trans (same_new hd)) (sm.free hd) (by rw [he]; exact upd_same)
    refine ⟨_, rfl, _, rfl, _, rfl, hz, _, _, rfl, rfl, _, rfl, ?_⟩
    rw [SX.S_len]
    by_cases hlt : i < l.length
    · rw [decide_eq_true (by omega)]
      obtain ⟨c, r, hcr⟩ : ∃ c r, l.drop i = c :: r := ⟨l[i], l.drop (i + 1), List.drop_eq_getElem_cons hlt⟩
      have hr1 : l.drop (i + 1) = r := by
        have := congrArg (List.drop 1) hcr
        rw [List.drop_drop] at this
        exact this
      have hc : l[i]? = some c := by
        rw [← List.head?_drop, hcr]
        rfl
      rw [hcr] at hx
      refine iteT ⟨_, fun _ _ z => z, ?_⟩
      refine ⟨_, rfl, _, rfl, S l, _, c, rfl, rfl, hz, atI_nat hc, ?_⟩
      refine ⟨_, rfl, rfl, _, rfl, ?_⟩
      have e10 : decide (V.str ⟨#[c]⟩ = V.str "\n") = decide (c = 10) := sgn_eq (c := c) (d := 10)
      have e32 : decide (V.str ⟨#[c]⟩ = V.str " ") = decide (c = 32) := sgn_eq (c := c) (d := 32)
      have e35 : decide (V.str ⟨#[c]⟩ = V.str "#") = decide (c = 35) := sgn_eq (c := c) (d := 35)
      rw [e10]
      by_cases c10 : c = 10
      · subst c10
        rw [decide_eq_true rfl]
        refine iteT ⟨_, rfl, _, _, rfl, rfl, _, rfl, _, _, rfl, rfl, ?_⟩
        exact ⟨_, by omega, i + 1, n + 1, as, done, _, _, _, rfl, hlt, by omega, by omega, by rw [hr1]; exact go_nl hx, rfl, sm, hp, hT⟩
      rw [decide_eq_false c10]
      refine iteF ⟨_, rfl, rfl, _, rfl, ?_⟩
      rw [e32]
      by_cases c32 : c = 32
      · subst c32
        rw [decide_eq_true rfl]
        refine iteT ⟨_, rfl, _, _, rfl, rfl, ?_⟩
        exact ⟨_, by omega, i + 1, n, as, done, _, _, _, rfl, hlt, by omega, by omega, by rw [hr1]; exact go_sp hx, rfl, sm, hp, hT⟩
      rw [decide_eq_false c32]
      refine iteF ⟨_, rfl, rfl, _, rfl, ?_⟩
      rw [e35]
      by_cases c35 : c = 35
      · subst c35
        rw [decide_eq_true rfl]
        have htw : (l.drop i).takeWhile (· != 10) = 35 :: r.takeWhile (· != 10) := by rw [hcr]; rfl
        have hle := tw_len (· != 10) (l.drop i)
        rw [List.length_drop] at hle
        have hpos : 1 ≤ ((l.drop i).takeWhile (· != 10)).length := by rw [htw, List.length_cons]; omega
        refine iteT ⟨_, rfl, _, rfl, l, i, rfl, hi, hl, ?_⟩
        have hx' : Going mo e done (l.drop (lineEnd l i)) n := by
          have e1 : l.drop (lineEnd l i) = r.dropWhile (· != 10) := by
            unfold lineEnd
            rw [← List.drop_drop, drop_tw, hcr]
            rfl
          rw [e1]
          exact go_cm hx
        refine ⟨_, ?_, lineEnd l i, n, as, done, _, _, _, rfl, ?_, ?_, ?_, hx', rfl, sm, hp, hT⟩
        · unfold lineEnd; omega
        · unfold lineEnd; omega
        · unfold lineEnd; omega
        · unfold lineEnd; omega
      rw [decide_eq_false c35]
      refine iteF ⟨_, rfl, c, LET, rfl, rfl, _, rfl, ?_⟩
      have body : (isLet c || isDig c) = true → ∀ D : Ends, (∀ σ' H', (∃ m', m' < l.length - i ∧ ∃ (i' n : Nat) (as : List Addr) (done : List TV) (y4 y5 y6 : Option V), m' = l.length - i' ∧ i' ≤ l.length ∧ n ≤ i' + 1 ∧ as.length ≤ i' ∧ Going mo e done (l.drop i') n ∧
          σ' = [some (.str (S l)), some (.ref p), some (.int (n : Int)), some (.int (i' : Int)), y4, y5, y6] ∧ Same H H' ∧ H' p = some (.lst (as.map V.ref)) ∧ as.length = done.length) → D.nx σ' H') →
          tSeq (tAsg (tCall sp__run [] E0 (tCons (tVar 0) (tCons (tVar 3) tNil))) (gName 5)) (tSeq (tDrop (tBM K "list" rAppend (tVar 1) (tCons (tCallS (sp__run_token T.C_TextError) (WE fun cls d _ H => E cls d H) (tCons (tVar 5) (tCons (tVar 2) tNil))) tNil)))
            (tAug 3 (tCB (fun xs H Q => ∃ z, xs = [.str z] ∧ z.length ≤ sizeLine ∧ Q (.int z.length) H) (tCons (tVar 5) tNil)) (ipI fun i j => i + j))) D [some (.str (S l)), some (.ref p), some (.int (n : Int)), some (.int (i : Int)), some (.str ⟨#[c]⟩), y5, y6] H' := fun hcl D hD => by
        obtain ⟨r', hr'⟩ := run_pos (r := r) hcl
        have hle := tw_len inRun (l.drop i)
        rw [List.length_drop] at hle
        refine ⟨_, rfl, _, rfl, l, i, rfl, hi, hl, ?_⟩
        refine ⟨_, rfl, .inl ⟨rfl, _, SqL.of hp⟩, ?_⟩
        refine ⟨_, rfl, _, rfl, (l.drop i).takeWhile inRun, n, rfl, by rw [hcr, hr']; simp, by omega, by omega, fun k v h2 H2 t s2 nt ht => ?_, fun hb => ?_⟩
        · rcases go_run hcl hx with ⟨k', v', h2', h3⟩ | ⟨hb, _, _⟩
          · rw [hcr] at h2
            obtain ⟨rfl, rfl⟩ : k' = k ∧ v' = v := by
              rw [h2'] at h2
              cases h2
              exact ⟨rfl, rfl⟩
            refine ⟨p, as.map V.ref, .ref t, rfl, rfl, s2 _ _ hp, ?_, ?_⟩
            · rw [List.length_map]
              exact Nat.lt_of_le_of_lt (Nat.le_trans has (Nat.le_trans hi hl)) (by decide)
            · have nt2 : t ≠ p := lp (as := as) (s2 _ _ hp) ht
              have hzr : (S ((l.drop i).takeWhile inRun)).length ≤ sizeLine := by rw [SX.S_len]; exact Nat.le_trans (show _ ≤ 100000 by omega) (by decide)
              refine ⟨_, rfl, _, rfl, _, rfl, hzr, _, _, rfl, rfl, ?_⟩
              have hpos : 1 ≤ ((l.drop i).takeWhile inRun).length := by rw [hcr, hr', List.length_cons]; omega
              refine hD _ _ ⟨_, ?_, i + ((l.drop i).takeWhile inRun).length, n, as ++ [t], done ++ [(k', v', n)], some (.str ⟨#[c]⟩), some (.str (S ((l.drop i).takeWhile inRun))), y6, rfl, by omega, by omega, ?_, ?_, ?_, ?_, ?_, ?_⟩
              · omega
              · rw [List.length_append, List.length_singleton]; omega
              · rw [← List.drop_drop, drop_tw, hcr]
                exact h3
              · rfl
              · intro b o hb
                rw [upd_ne (ne_of_none hb np)]
                exact s2 _ _ (sm _ _ hb)
              · rw [upd_same, List.map_append]
                rfl
              · rw [List.length_append, List.length_append, hT]; rfl
          · rw [hcr, hb] at h2
            cases h2
        · rcases go_run hcl hx with ⟨k', v', h2', h3⟩ | ⟨_, hm, he⟩
          · rw [hcr, h2'] at hb
            cases hb
          · intro H2 d s2 hd hx2
            exact qe hm _ d (sm.trans s2) (sm.free hd) (by rw [he]; exact hx2)
      show if isLet c = true then _ else _
      cases h1 : isLet c with
      | true =>
        refine iteT (iteT ?_)
        exact body (by rw [h1]; rfl) _ fun σ' H' h => h
      | false =>
        refine iteF ⟨_, rfl, c, DIG, rfl, rfl, _, rfl, ?_⟩
        show if isDig c = true then _ else _
        cases h2 : isDig c with
        | true =>
          refine iteT ?_
          exact body (by rw [h1, h2]; rfl) _ fun σ' H' h => h
        | false =>
          have hcl : (isLet c || isDig c) = false := by rw [h1, h2]; rfl
          refine iteF ⟨_, rfl, _, rfl, l, i, rfl, hi, ?_⟩
          rw [hcr]
          rcases go_sgn c10 c32 c35 hcl hx with ⟨z, hz2, h3⟩ | ⟨hz2, hm, he⟩
          · obtain ⟨z1, z2⟩ := sign_pos hz2
            rw [hz2]
            have hcrl : (c :: r).length = l.length - i := by rw [← hcr, List.length_drop]
            refine ⟨_, rfl, rfl, _, rfl, ?_⟩
            have ez : decide (V.str z = V.str "") = false := decide_eq_false fun q => by
              have := V.str.inj q
              rw [this] at z1
              exact absurd z1 (by decide)
            show if decide (V.str z = V.str "") = true then _ else _
            rw [ez]
            refine iteF ⟨_, rfl, .inl ⟨rfl, _, SqL.of hp⟩, _, rfl, _, rfl, by show 3 ≤ sizeLine; decide, fun t nt => ?_⟩
            have nt2 : t ≠ p := fun z => by rw [z, hp] at nt; cases nt
            refine ⟨p, as.map V.ref, .ref t, rfl, rfl, same_new nt _ _ hp, ?_, ?_⟩
            · rw [List.length_map]
              exact Nat.lt_of_le_of_lt (Nat.le_trans has (Nat.le_trans hi hl)) (by decide)
            have hzz : z.length ≤ sizeLine := Nat.le_trans z2 (by rw [hcrl]; exact Nat.le_trans (show _ ≤ 100000 by omega) (by decide))
            refine ⟨_, rfl, _, rfl, _, rfl, hzz, _, _, rfl, rfl, ?_⟩
            refine ⟨_, ?_, i + z.length, n, as ++ [t], done ++ [(("sign" : Str), V.str z, n)], some (.str ⟨#[c]⟩), y5, some (.str z), rfl, by omega, by omega, ?_, ?_, ?_, ?_, ?_, ?_⟩
            · omega
            · rw [List.length_append, List.length_singleton]; omega
            · rw [← List.drop_drop, hcr]
              exact h3
            · rfl
            · intro b o hb
              rw [upd_ne (ne_of_none hb np)]
              exact same_new nt _ _ (sm _ _ hb)
            · rw [upd_same, List.map_append]
              rfl
            · rw [List.length_append, List.length_append, hT]; rfl
          · rw [hz2]
            refine ⟨_, rfl, rfl, _, rfl, ?_⟩
            show if decide (V.str "" = V.str "") = true then _ else _
            rw [decide_eq_true rfl]
            exact iteT ⟨_, rfl, _, rfl, msg_line T (by omega), fun d hd => fly H' sm hm he d hd⟩
    · rw [decide_eq_false (by omega)]
      have hin : i = l.length := by omega
      have e0 : l.drop i = [] := by rw [hin]; exact List.drop_length
      rw [e0] at hx
      obtain ⟨hm, he⟩ := go_nil hx
      refine iteF ?_
      refine ⟨_, rfl, .inl ⟨rfl, _, SqL.of hp⟩, _, rfl, by show 3 ≤ sizeLine; decide, fun t nt => ?_⟩
      refine ⟨p, as.map V.ref, .ref t, rfl, rfl, same_new nt _ _ hp, ?_, ?_⟩
      · rw [List.length_map]
        exact Nat.lt_of_le_of_lt (Nat.le_trans has (Nat.le_trans hi hl)) (by decide)
      refine ⟨_, rfl, q done _ p (as ++ [t]) hm ?_ np ?_ ?_⟩
      · intro b o hb
        rw [upd_ne (ne_of_none hb np)]
        exact same_new nt _ _ (sm _ _ hb)
      · rw [upd_same, List.map_append]
        rfl
      · rw [List.length_append, hT]; rfl
end

end Mine

set_option Elab.async false
set_option linter.all false
set_option maxRecDepth 100000
set_option maxHeartbeats 4000000


namespace Mine
open PySem PySem.Spec PyProof.Rows L2
theorem nat_in {v : Int} {n : Nat} (h0 : 0 ≤ v) (h1 : v < (n : Int)) : ∃ k : Nat, v = (k : Int) ∧ k < n := ⟨v.toNat, by omega, by omega⟩
theorem sign_at {z : Str} {v : Int} {n : Nat} (h0 : 0 ≤ v) (h1 : v < (n : Int)) (hn : z.cps.toList.length = n) : ∃ c, atI z.cps.toList v = some c ∧ c ∈ z.cps.toList := by
  obtain ⟨k, rfl, hk⟩ := nat_in h0 h1
  have hk2 : k < z.cps.toList.length := by omega
  exact ⟨z.cps.toList[k], atI_nat (List.getElem?_eq_getElem hk2), List.getElem_mem hk2⟩
theorem getL {α : Type} {l : List α} {u : Int} {n : Nat} (h0 : 0 ≤ u) (h1 : u < (n : Int)) (hn : l.length = n) : ∃ z, z ∈ l ∧ ∀ f : α → V, atI (l.map f) u = some (f z) := by
  obtain ⟨k, rfl, hk⟩ := nat_in h0 h1
  have hk2 : k < l.length := by omega
  refine ⟨l[k], List.getElem_mem hk2, fun f => atI_nat ?_⟩
  rw [List.getElem?_map, List.getElem?_eq_getElem hk2]
  rfl
theorem dig_is {c : Nat} (h : 48 ≤ c ∧ c ≤ 57) : isDig c = true := by
  have e : DIG.cps.toList = [48, 49, 50, 51, 52, 53, 54, 55, 56, 57] := by decide +kernel
  unfold isDig
  rw [e, decide_eq_true_eq]
  simp only [List.mem_cons, List.mem_nil_iff, or_false]
  omega
theorem dig_run {c : Nat} (h : isDig c = true) : inRun c = true := by
  unfold inRun
  rw [h]
  cases isLet c <;> rfl
/-! ### parts that are not tokens -/
def BEH : List Str := ["", " x", "\n= :", "\n;", " # x"]
structure BadP (l : List Nat) : Prop where
  no : ∀ x ∈ l, x ≠ 10
  len : l.length ≤ 100
  lex : ∀ b ∈ BEH, ∀ n, LexE (l ++ b.cps.toList) n n
theorem beh_ok {b : Str} (h : b ∈ BEH) : b.cps.toList = [] ∨ ∃ c t', b.cps.toList = c :: t' ∧ inRun c = false := by
  have e : BEH.all (fun b => match b.cps.toList with | [] => true | c :: _ => !inRun c) = true := by decide +kernel
  have h2 := List.all_eq_true.mp e b h
  cases hb : b.cps.toList with
  | nil => exact .inl rfl
  | cons c t =>
    rw [hb] at h2
    exact .inr ⟨c, t, rfl, by simpa using h2⟩
theorem bad_run {c : Nat} {r : List Nat} (hc : (isLet c || isDig c) = true) (hr : ∀ x ∈ c :: r, inRun x = true) (ht : runTok (c :: r) = none) (hl : (c :: r).length ≤ 100) : BadP (c :: r) := by
  refine ⟨fun x hx h => ?_, hl, fun b hb n => ?_⟩
  · have := hr x hx
    rw [h, nl_out] at this
    cases this
  · have e := (tw_app hr (beh_ok hb)).1
    show LexE (c :: (r ++ b.cps.toList)) n n
    exact .badRun hc ((congrArg runTok e).trans ht)
def MARKS : Str := "=:_>$@?{}\"'`\\"
theorem bad_mark {c : Nat} (h : c ∈ MARKS.cps.toList) : BadP [c] := by
  have e : MARKS.cps.toList.all (fun c => decide (c ≠ 10) && (decide (c ≠ 32) && (decide (c ≠ 35) && (!(isLet c || isDig c) && BEH.all fun b => (signOf (c :: b.cps.toList)).isNone)))) = true := by decide +kernel
  have h2 := List.all_eq_true.mp e c h
  rw [Bool.and_eq_true, Bool.and_eq_true, Bool.and_eq_true, Bool.and_eq_true, decide_eq_true_eq, decide_eq_true_eq, decide_eq_true_eq, Bool.not_eq_true'] at h2
  obtain ⟨h3, h4, h5, h6, h7⟩ := h2
  refine ⟨fun x hx => by rw [List.mem_singleton] at hx; rw [hx]; exact h3, by show 1 ≤ 100; decide, fun b hb n => ?_⟩
  have h8 := List.all_eq_true.mp h7 b hb
  exact .badSgn h3 h4 h5 h6 (by simpa using h8)
theorem tok_let {c : Nat} {r : List Nat} (h1 : isDig c = false) (h2 : 16 < (c :: r).length) : runTok (c :: r) = none := by
  have e : runTok (c :: r) = (if isDig c = true then (numOf (c :: r)).map fun n => (("number" : Str), V.int n) else if 16 < (c :: r).length then none else if isRes (c :: r) = true then some ("word", .str (S (c :: r))) else some ("name", .str (S (c :: r)))) := rfl
  rw [e, h1, if_neg (by decide), if_pos h2]
theorem tok_dig {c : Nat} {r : List Nat} (h1 : isDig c = true) (h2 : numOf (c :: r) = none) : runTok (c :: r) = none := by
  have e : runTok (c :: r) = (if isDig c = true then (numOf (c :: r)).map fun n => (("number" : Str), V.int n) else if 16 < (c :: r).length then none else if isRes (c :: r) = true then some ("word", .str (S (c :: r))) else some ("name", .str (S (c :: r)))) := rfl
  rw [e, h1, if_pos rfl, h2]
  rfl
theorem hd_no {c : Nat} {r : List Nat} (h : c ≠ 48) : hd [48, 120] (c :: r) = false := by
  unfold hd
  rw [beq_eq_false_iff_ne]
  intro z
  have := congrArg List.head? z
  simp at this
  exact h this
/-- a run of digits that does not begin with a nought -/
structure DigP (l : List Nat) (k : Nat) : Prop where
  head : ∃ c r, l = c :: r ∧ 49 ≤ c ∧ c ≤ 57
  dig : ∀ x ∈ l, 48 ≤ x ∧ x ≤ 57
  len : l.length = k
theorem bad_digits {l : List Nat} {k : Nat} (h : DigP l k) (hk : 10 < k) (hk2 : k ≤ 100) : BadP l := by
  obtain ⟨⟨c, r, rfl, h1, h2⟩, hd, hl⟩ := h
  have hc : isDig c = true := dig_is ⟨by omega, h2⟩
  refine bad_run (by rw [hc, Bool.or_true]) (fun x hx => dig_run (dig_is (hd x hx))) (tok_dig hc ?_) (by omega)
  unfold numOf
  rw [hd_no (by omega), if_neg (by decide), if_pos (by omega)]
theorem bad_tail {l : List Nat} {k x : Nat} (h : DigP l k) (hk2 : k ≤ 9) (hx : isDig x = false) (hx2 : inRun x = true) : BadP (l ++ [x]) := by
  obtain ⟨⟨c, r, rfl, h1, h2⟩, hd, hl⟩ := h
  have hc : isDig c = true := dig_is ⟨by omega, h2⟩
  refine bad_run (c := c) (r := r ++ [x]) (by rw [hc, Bool.or_true]) (fun y hy => ?_) (tok_dig hc ?_) ?_
  · rcases List.mem_append.mp (show y ∈ (c :: r) ++ [x] from hy) with hy | hy
    · exact dig_run (dig_is (hd y hy))
    · rw [List.mem_singleton] at hy
      rw [hy]
      exact hx2
  · unfold numOf
    have hlen : (c :: (r ++ [x])).length = k + 1 := by
      rw [← hl]; simp
    rw [hd_no (by omega), if_neg (by decide), if_neg (by omega)]
    have ha : (c :: (r ++ [x])).all isDig = false := by
      rw [← Bool.not_eq_true]
      intro hall
      have := List.all_eq_true.mp hall x (by simp)
      rw [hx] at this
      cases this
    rw [ha, if_pos rfl]
  · rw [List.length_cons] at hl
    rw [List.length_cons, List.length_append, List.length_singleton]
    omega
theorem bad_big {m : Nat} (h1 : 4294967295 < m) (h2 : m < 10 ^ 12) : BadP (TL.numL m) := by
  have hd0 := TL.numL_digits m
  have hlen : (TL.numL m).length ≤ 12 := TL.numL_len (by decide) h2
  cases hx : TL.numL m with
  | nil => exact absurd hx (TL.numL_ne _)
  | cons c r =>
    rw [hx] at hd0 hlen
    have hc := dig_is (hd0 c List.mem_cons_self)
    refine bad_run (by rw [hc, Bool.or_true]) (fun y hy => dig_run (dig_is (hd0 y hy))) (tok_dig hc ?_) (by omega)
    unfold numOf
    have e1 : hd [48, 120] (c :: r) = false := by
      unfold hd
      cases r with
      | nil => simp
      | cons d r =>
        have := hd0 d (List.mem_cons_of_mem _ List.mem_cons_self)
        show ([c, d] == [48, 120]) = false
        rw [beq_eq_false_iff_ne]
        intro z
        injection z with _ z
        injection z with z _
        omega
    have e3 : PySem.NumText.digitsVal (c :: r) = m := by rw [← hx]; exact TL.numL_val m
    rw [e1, if_neg (by decide), e3]
    split
    · rfl
    split
    · rfl
    split
    · rfl
    rw [if_pos (by omega)]
theorem bad_zero {d k : Nat} (h1 : 48 ≤ d ∧ d ≤ 57) (hk : k < 3) : BadP (48 :: d :: List.replicate k 55) := by
  have e : (List.range' 48 10).all (fun d => (List.range 3).all fun k => (runTok (48 :: d :: List.replicate k 55)).isNone && ((48 :: d :: List.replicate k 55).all inRun)) = true := by decide +kernel
  have h2 := List.all_eq_true.mp (List.all_eq_true.mp e d (by rw [List.mem_range'_1]; omega)) k (List.mem_range.mpr hk)
  rw [Bool.and_eq_true] at h2
  refine bad_run (by decide +kernel) (List.all_eq_true.mp h2.2) (by simpa using h2.1) ?_
  rw [List.length_cons, List.length_cons, List.length_replicate]
  omega
def HX6 : List Str := ["0x", "0xg", "0x1G", "0xA", "0X1", "0x_1"]
theorem bad_runB {z : Str} (h : (match z.cps.toList with | [] => false | c :: r => (isLet c || isDig c) && ((c :: r).all inRun && ((runTok (c :: r)).isNone && decide ((c :: r).length ≤ 100)))) = true) : BadP z.cps.toList := by
  cases hz : z.cps.toList with
  | nil => rw [hz] at h; cases h
  | cons c r =>
    rw [hz] at h
    have h' : ((isLet c || isDig c) && ((c :: r).all inRun && ((runTok (c :: r)).isNone && decide ((c :: r).length ≤ 100)))) = true := h
    rw [Bool.and_eq_true, Bool.and_eq_true, Bool.and_eq_true, decide_eq_true_eq] at h'
    exact bad_run h'.1 (List.all_eq_true.mp h'.2.1) (by simpa using h'.2.2.1) h'.2.2.2
theorem bad_hx6 {z : Str} (h : z ∈ HX6) : BadP z.cps.toList := by
  have e : HX6.all (fun z => match z.cps.toList with | [] => false | c :: r => (isLet c || isDig c) && ((c :: r).all inRun && ((runTok (c :: r)).isNone && decide ((c :: r).length ≤ 100)))) = true := by decide +kernel
  exact bad_runB (List.all_eq_true.mp e z h)
def HX15 : Str := "123456789abcdef"
theorem bad_hx9 {c : Nat} (h : c ∈ HX15.cps.toList) : BadP (48 :: 120 :: c :: ("0af9c3e1" : Str).cps.toList) := by
  have e : HX15.cps.toList.all (fun c => (48 :: 120 :: c :: ("0af9c3e1" : Str).cps.toList).all inRun && (runTok (48 :: 120 :: c :: ("0af9c3e1" : Str).cps.toList)).isNone) = true := by decide +kernel
  have h2 := List.all_eq_true.mp e c h
  rw [Bool.and_eq_true] at h2
  exact bad_run (by decide +kernel) (List.all_eq_true.mp h2.1) (by simpa using h2.2) (by show 11 ≤ 100; decide)
def NEARS : List Str := ["aaaaaaaaaaaaaaaa", "4294967295", "0xffffffff", "0", "Z_9", "0x00000000"]
theorem near_ok {z : Str} (h : z ∈ NEARS) : z.length ≤ 16 ∧ ∀ n, ∃ ts e, Lex z.cps.toList n ts e := by
  have e : NEARS.all (fun z => match z.cps.toList with | [] => false | c :: r => (isLet c || isDig c) && ((c :: r).all inRun && ((runTok (c :: r)).isSome && decide (z.length ≤ 16)))) = true := by decide +kernel
  have h2 := List.all_eq_true.mp e z h
  cases hz : z.cps.toList with
  | nil => rw [hz] at h2; cases h2
  | cons c r =>
    rw [hz] at h2
    have h' : ((isLet c || isDig c) && ((c :: r).all inRun && ((runTok (c :: r)).isSome && decide (z.length ≤ 16)))) = true := h2
    rw [Bool.and_eq_true, Bool.and_eq_true, Bool.and_eq_true, decide_eq_true_eq] at h'
    refine ⟨h'.2.2.2, fun n => ?_⟩
    have t := tw_app (t := []) (List.all_eq_true.mp h'.2.1) (.inl rfl)
    rw [List.append_nil] at t
    obtain ⟨kv, hkv⟩ := Option.isSome_iff_exists.mp h'.2.2.1
    refine ⟨[(kv.1, kv.2, n)], n, .run h'.1 (by rw [t.1]; exact hkv) ?_⟩
    rw [t.2]
    exact .nil
/-- a comment with the part in it, then a good part -/
theorem com_near {l : List Nat} {z : Str} (h : BadP l) (hz : z ∈ NEARS) (n : Nat) : ∃ ts e, Lex (35 :: (l ++ 10 :: z.cps.toList)) n ts e := by
  obtain ⟨ts, e, hx⟩ := (near_ok hz).2 (n + 1)
  refine ⟨ts, e, .cm ?_⟩
  have e1 : (l ++ 10 :: z.cps.toList).dropWhile (· != 10) = 10 :: z.cps.toList := by
    have key : ∀ l : List Nat, (∀ x ∈ l, x ≠ 10) → (l ++ 10 :: z.cps.toList).dropWhile (· != 10) = 10 :: z.cps.toList := by
      intro l
      induction l with
      | nil => intro _; rfl
      | cons a r ih =>
        intro h
        show (a :: (r ++ 10 :: z.cps.toList)).dropWhile (· != 10) = _
        have ha : (a != 10) = true := by simpa using h a List.mem_cons_self
        rw [List.dropWhile_cons, ha, if_pos rfl]
        exact ih fun x hx => h x (List.mem_cons_of_mem _ hx)
    exact key l h.no
  rw [e1]
  exact .nl hx

end Mine

set_option Elab.async false
set_option linter.all false
set_option maxRecDepth 100000
set_option maxHeartbeats 4000000


namespace Mine
open PySem PySem.Spec PyProof.Rows L2
theorem good_len {z : Str} (h : z ∈ GOODS) : z.cps.toList.length ≤ 10 := by
  have e : GOODS.all (fun z => decide (z.cps.toList.length ≤ 10)) = true := by decide +kernel
  exact of_decide_eq_true (List.all_eq_true.mp e z h)
theorem add_S (l : List Nat) (z : Str) : S l ++ z = S (l ++ z.cps.toList) := by
  conv => lhs; rw [str_of z]
  exact SX.S_cat l z.cps.toList
theorem small_len {n : Nat} (h : n ≤ 10000) : n ≤ sizeLine := Nat.le_trans h (by decide)
section
variable {P : Program} {w : World} {K : PySem.W.Frag} {mg : Str → Option Value} {base : Heap}
def sp__law_good : Sp := fun vs H Q _ => ∃ (st c : Addr), vs = [.ref st] ∧ StOk H st c ∧ ∀ (z : Str) (H' : Hp), z ∈ GOODS → StOk H' st c → Keep st c H H' → Q (.str z) H'
theorem ok__law_good (T : Top P K mg) : FnOk P w K mg base CX0 2 T.a__law_good T.d__law_good ["state"]  sp__law_good := by
  refine T.F__law_good.ok sc__law_good (fun vs H Q E h => ?_) (fun cdv A outer s H vs Q E hr h => ?_)
  · obtain ⟨_, _, rfl, _⟩ := h
    rfl
  · obtain ⟨st, c, rfl, hst, q⟩ := h
    refine ⟨_, (pss_cons (ps_set (i := 1) sc__law_good.nd rfl (by first | exact Or.inl rfl | exact Or.inr rfl) (pe_lst (pa_cons pe_str (pa_cons pe_str (pa_cons pe_str (pa_cons pe_str (pa_cons pe_str (pa_cons pe_str (pa_cons pe_str (pa_cons pe_str (pa_cons pe_str (pa_cons pe_str (pa_cons pe_str (pa_cons pe_str (pa_cons pe_str (pa_cons pe_str (pa_cons pe_str pa_nil)))))))))))))))))
  (pss_one (ps_ret (pe_ix ix_list (pv 1) (pe_call (ok__law_draw T) (hr.mono (by decide)) (by rfl) T.g__law_draw T.F__law_draw.kp T.b__law_draw .nil pass0 (pa_cons (pv 0) (pa_cons (pe_callB call_len_seq (by rfl) T.m_len PySem.boot_len (pa_cons (pv 1) pa_nil)) pa_nil))) (fun _ _ => rfl))))), ?_⟩
    refine ⟨by show 15 ≤ sizeLine; decide, fun p np => ?_⟩
    have npp := hst.ne np
    refine ⟨_, rfl, _, rfl, _, rfl, p, GOODS.map V.str, rfl, .inl (SqL.of upd_same), st, c, 15, rfl, hst.same (same_new np), by decide, by decide, fun u H3 u0 u1 hs3 k3 => ?_⟩
    obtain ⟨z, hz, hg⟩ := getL (l := GOODS) u0 (n := 15) u1 (by decide)
    have hp3 : H3 p = some (.lst (GOODS.map V.str)) := k3 _ _ npp.1 npp.2 upd_same
    exact ⟨p, _, u, .str z, rfl, rfl, SqL.of hp3, hg V.str, q z H3 hz hs3 ((Keep.same (same_new np)).trans k3)⟩
def D9 : Str := "123456789"
def sp__law_digits : Sp := fun vs H Q _ => ∃ (st c : Addr) (k : Nat), vs = [.ref st, .int (k : Int)] ∧ 1 ≤ k ∧ k ≤ 50 ∧ StOk H st c ∧ ∀ (l : List Nat) (H' : Hp), DigP l k → StOk H' st c → Keep st c H H' → Q (.str (S l)) H'
theorem ok__law_digits (T : Top P K mg) : FnOk P w K mg base CX0 2 T.a__law_digits T.d__law_digits ["state", "many"]  sp__law_digits := by
  refine T.F__law_digits.ok sc__law_digits (fun vs H Q E h => ?_) (fun cdv A outer s H vs Q E hr h => ?_)
  · obtain ⟨_, _, _, rfl, _⟩ := h
    rfl
  · obtain ⟨st, c, k, rfl, hk1, hk2, hst, q⟩ := h
    refine ⟨_, (pss_cons (ps_set (i := 2) sc__law_digits.nd rfl (by first | exact Or.inl rfl | exact Or.inr rfl) (pe_ix ix_str pe_str (pe_call (ok__law_draw T) (hr.mono (by decide)) (by rfl) T.g__law_draw T.F__law_draw.kp T.b__law_draw .nil pass0 (pa_cons (pv 0) (pa_cons pe_int pa_nil))) (fun _ _ => rfl)))
  (pss_cons (ps_while PassesOwn.never (pt_cmpR op_lt (pe_callB call_len_str (by rfl) T.m_len PySem.boot_len (pa_cons (pv 2) pa_nil)) (pv 1) (nomark _))
  (pss_one (ps_set (i := 2) sc__law_digits.nd rfl (by first | exact Or.inl rfl | exact Or.inr rfl) (pe_op op_add_str (pv 2) (pe_ix ix_str pe_str (pe_call (ok__law_draw T) (hr.mono (by decide)) (by rfl) T.g__law_draw T.F__law_draw.kp T.b__law_draw .nil pass0 (pa_cons (pv 0) (pa_cons pe_int pa_nil))) (fun _ _ => rfl))))))
  (pss_one (ps_ret (pv 2))))), ?_⟩
    refine ⟨_, rfl, st, c, 9, rfl, hst, by decide, by decide, fun u H1 u0 u1 hs1 k1 => ?_⟩
    obtain ⟨d, hd1, hd2⟩ := sign_at (z := D9) (n := 9) u0 u1 (by decide +kernel)
    have hdd : 49 ≤ d ∧ d ≤ 57 := by
      have e : D9.cps.toList.all (fun d => decide (49 ≤ d ∧ d ≤ 57)) = true := by decide +kernel
      exact of_decide_eq_true (List.all_eq_true.mp e d hd2)
    refine ⟨D9, u, d, rfl, rfl, by decide +kernel, hd1, ?_⟩
    refine ⟨fun m σ H' => ∃ r : List Nat, m = k - (d :: r).length ∧ (d :: r).length ≤ k ∧ (∀ x ∈ d :: r, 48 ≤ x ∧ x ≤ 57) ∧ σ = [some (.ref st), some (.int (k : Int)), some (.str (S (d :: r)))] ∧ StOk H' st c ∧ Keep st c H H',
      ⟨_, [], rfl, hk1, fun x hx => by rw [List.mem_singleton] at hx; rw [hx]; omega, rfl, hs1, k1⟩, ?_⟩
    rintro m σ H' ⟨r, rfl, hlen, hrun, rfl, hs, hk⟩
    have hsl : (S (d :: r)).length ≤ sizeLine := by rw [SX.S_len]; exact small_len (by omega)
    refine ⟨_, rfl, _, rfl, hsl, _, rfl, _, _, rfl, rfl, _, rfl, ?_⟩
    rw [SX.S_len]
    by_cases hlt : (d :: r).length < k
    · rw [decide_eq_true (by omega)]
      refine iteT ⟨_, fun _ _ z => z, ?_⟩
      refine ⟨_, rfl, _, rfl, st, c, 10, rfl, hs, by decide, by decide, fun y H5 y0 y1 hs5 k5 => ?_⟩
      obtain ⟨x, hx1, hx2⟩ := sign_at (z := DIG) (n := 10) y0 y1 (by decide +kernel)
      refine ⟨DIG, y, x, rfl, rfl, by decide +kernel, hx1, S (d :: r), ⟨#[x]⟩, rfl, rfl, ?_, ?_⟩
      · rw [SX.S_len]
        show (d :: r).length + 1 ≤ sizeLine
        exact small_len (by omega)
      · refine ⟨k - (d :: (r ++ [x])).length, ?_, r ++ [x], rfl, ?_, ?_, ?_, hs5, hk.trans k5⟩
        · rw [List.length_cons, List.length_append, List.length_singleton]
          rw [List.length_cons] at hlt ⊢
          omega
        · rw [List.length_cons, List.length_append, List.length_singleton]
          rw [List.length_cons] at hlt
          omega
        · intro z hz
          rcases List.mem_append.mp (show z ∈ (d :: r) ++ [x] from hz) with hz | hz
          · exact hrun z hz
          · rw [List.mem_singleton] at hz
            rw [hz]
            exact dig_of (decide_eq_true hx2)
        · have e : S (d :: r) ++ (⟨#[x]⟩ : Str) = S (d :: (r ++ [x])) := SX.S_cat (d :: r) [x]
          exact congrArg (fun z => [some (V.ref st), some (.int (k : Int)), some (V.str z)]) e
    · rw [decide_eq_false (by omega)]
      exact iteF ⟨_, rfl, q _ _ ⟨⟨d, r, rfl, hdd.1, hdd.2⟩, hrun, by omega⟩ hs hk⟩
def L8 : Str := "abcXYZmn"
theorem long_ok {d k : Nat} (h : d ∈ L8.cps.toList) (hk : k < 4) : BadP (d :: ([97, 49, 95, 90, 97, 49, 95, 90, 97, 49, 95, 90, 97, 49, 95, 90] ++ List.replicate k 113)) := by
  have e : L8.cps.toList.all (fun d => (List.range 4).all fun k => (isLet d || isDig d) && (!isDig d && (d :: ([97, 49, 95, 90, 97, 49, 95, 90, 97, 49, 95, 90, 97, 49, 95, 90] ++ List.replicate k 113)).all inRun)) = true := by decide +kernel
  have h2 := List.all_eq_true.mp (List.all_eq_true.mp e d h) k (List.mem_range.mpr hk)
  rw [Bool.and_eq_true, Bool.and_eq_true, Bool.not_eq_true'] at h2
  refine bad_run h2.1 (List.all_eq_true.mp h2.2.2) (tok_let h2.2.1 ?_) ?_
  · first | (simp; done) | (simp; omega)
  · first | (simp; done) | (simp; omega)
def sp__law_long : Sp := fun vs H Q _ => ∃ (st c : Addr), vs = [.ref st] ∧ StOk H st c ∧ ∀ (l : List Nat) (H' : Hp), BadP l → StOk H' st c → Keep st c H H' → Q (.str (S l)) H'
theorem ok__law_long (T : Top P K mg) : FnOk P w K mg base CX0 2 T.a__law_long T.d__law_long ["state"]  sp__law_long := by
  refine T.F__law_long.ok sc__law_long (fun vs H Q E h => ?_) (fun cdv A outer s H vs Q E hr h => ?_)
  · obtain ⟨_, _, rfl, _⟩ := h
    rfl
  · obtain ⟨st, c, rfl, hst, q⟩ := h
    refine ⟨_, (pss_one (ps_ret (pe_op op_add_str (pe_op op_add_str (pe_ix ix_str pe_str (pe_call (ok__law_draw T) (hr.mono (by decide)) (by rfl) T.g__law_draw T.F__law_draw.kp T.b__law_draw .nil pass0 (pa_cons (pv 0) (pa_cons pe_int pa_nil))) (fun _ _ => rfl)) (pe_op op_mul_str pe_str pe_int)) (pe_op op_mul_str pe_str (pe_call (ok__law_draw T) (hr.mono (by decide)) (by rfl) T.g__law_draw T.F__law_draw.kp T.b__law_draw .nil pass0 (pa_cons (pv 0) (pa_cons pe_int pa_nil))))))), ?_⟩
    refine ⟨_, rfl, st, c, 8, rfl, hst, by decide, by decide, fun u H1 u0 u1 hs1 k1 => ?_⟩
    obtain ⟨d, hd1, hd2⟩ := sign_at (z := L8) (n := 8) u0 u1 (by decide +kernel)
    refine ⟨L8, u, d, rfl, rfl, by decide +kernel, hd1, ?_⟩
    refine ⟨[97, 49, 95, 90], 4, rfl, rfl, by decide, by decide, by decide, ?_⟩
    refine ⟨⟨#[d]⟩, S _, rfl, rfl, ?_, ?_⟩
    · show 1 + 16 ≤ sizeLine
      exact small_len (by decide)
    refine ⟨_, rfl, st, c, 4, rfl, hs1, by decide, by decide, fun v H2 v0 v1 hs2 k2 => ?_⟩
    obtain ⟨k, rfl, hk⟩ := nat_in (n := 4) v0 v1
    refine ⟨[113], _, rfl, rfl, by omega, by omega, by decide, ?_⟩
    rw [rep_one]
    have e1 : ((⟨#[d]⟩ : Str) ++ S (List.replicate (Int.toNat 4) [97, 49, 95, 90]).flatten) = S (d :: [97, 49, 95, 90, 97, 49, 95, 90, 97, 49, 95, 90, 97, 49, 95, 90]) := SX.S_cat [d] _
    have e : ((⟨#[d]⟩ : Str) ++ S (List.replicate (Int.toNat 4) [97, 49, 95, 90]).flatten) ++ S (List.replicate ((k : Int).toNat) 113) = S (d :: ([97, 49, 95, 90, 97, 49, 95, 90, 97, 49, 95, 90, 97, 49, 95, 90] ++ List.replicate k 113)) := by
      rw [e1, SX.S_cat]
      rfl
    refine ⟨_, S _, rfl, rfl, ?_, ?_⟩
    · rw [e1, SX.S_len, SX.S_len, List.length_replicate]
      show 17 + k ≤ sizeLine
      exact small_len (by omega)
    have g := q _ H2 (long_ok hd2 hk) hs2 (k1.trans k2)
    rw [← e] at g
    exact g
def sp__law_near : Sp := fun vs H Q _ => ∃ (st c : Addr), vs = [.ref st] ∧ StOk H st c ∧ ∀ (z : Str) (H' : Hp), z ∈ NEARS → StOk H' st c → Keep st c H H' → Q (.str z) H'
theorem ok__law_near (T : Top P K mg) : FnOk P w K mg base CX0 2 T.a__law_near T.d__law_near ["state"]  sp__law_near := by
  refine T.F__law_near.ok sc__law_near (fun vs H Q E h => ?_) (fun cdv A outer s H vs Q E hr h => ?_)
  · obtain ⟨_, _, rfl, _⟩ := h
    rfl
  · obtain ⟨st, c, rfl, hst, q⟩ := h
    refine ⟨_, (pss_one (ps_ret (pe_ix ix_list (pe_lst (pa_cons (pe_op op_mul_str pe_str pe_int) (pa_cons pe_str (pa_cons pe_str (pa_cons pe_str (pa_cons pe_str (pa_cons pe_str pa_nil))))))) (pe_call (ok__law_draw T) (hr.mono (by decide)) (by rfl) T.g__law_draw T.F__law_draw.kp T.b__law_draw .nil pass0 (pa_cons (pv 0) (pa_cons pe_int pa_nil))) (fun _ _ => rfl)))), ?_⟩
    refine ⟨[97], 16, rfl, rfl, by decide, by decide, by decide, ?_⟩
    have e16 : S (List.replicate (Int.toNat 16) [97]).flatten = ("aaaaaaaaaaaaaaaa" : Str) := by decide +kernel
    rw [e16]
    refine ⟨by show 6 ≤ sizeLine; decide, fun p np => ?_⟩
    have npp := hst.ne np
    refine ⟨_, rfl, st, c, 6, rfl, hst.same (same_new np), by decide, by decide, fun u H3 u0 u1 hs3 k3 => ?_⟩
    obtain ⟨z, hz, hg⟩ := getL (l := NEARS) u0 (n := 6) u1 (by decide)
    have hp3 : H3 p = some (.lst (NEARS.map V.str)) := k3 _ _ npp.1 npp.2 upd_same
    exact ⟨p, _, u, .str z, rfl, rfl, SqL.of hp3, hg V.str, q z H3 hz hs3 ((Keep.same (same_new np)).trans k3)⟩
def sp__law_lines : Sp := fun vs H Q _ => ∃ (st c : Addr), vs = [.ref st] ∧ StOk H st c ∧ ∀ (l : List Nat) (k : Nat) (H' : Hp), Pre l k → l.length ≤ 1000 → StOk H' st c → Keep st c H H' → Q (.str (S l)) H'
theorem ok__law_lines (T : Top P K mg) : FnOk P w K mg base CX0 3 T.a__law_lines T.d__law_lines ["state"]  sp__law_lines := by
  refine T.F__law_lines.ok sc__law_lines (fun vs H Q E h => ?_) (fun cdv A outer s H vs Q E hr h => ?_)
  · obtain ⟨_, _, rfl, _⟩ := h
    rfl
  · obtain ⟨st, c, rfl, hst, q⟩ := h
    refine ⟨_, (pss_cons (ps_set (i := 1) sc__law_lines.nd rfl (by first | exact Or.inl rfl | exact Or.inr rfl) pe_str)
  (pss_cons (ps_for PassesOwn.never rfl (pi_range1 (by rfl) T.m_range (pa_cons (pe_call (ok__law_draw T) (hr.mono (by decide)) (by rfl) T.g__law_draw T.F__law_draw.kp T.b__law_draw .nil pass0 (pa_cons (pv 0) (pa_cons pe_int pa_nil))) pa_nil)) (pg_name (i := 2) sc__law_lines.nd rfl (by first | exact Or.inl rfl | exact Or.inr rfl))
  (pss_cons (ps_set (i := 1) sc__law_lines.nd rfl (by first | exact Or.inl rfl | exact Or.inr rfl) (pe_op op_add_str (pe_op op_add_str (pv 1) (pe_call (ok__law_good T) (hr.mono (by decide)) (by rfl) T.g__law_good T.F__law_good.kp T.b__law_good .nil pass0 (pa_cons (pv 0) pa_nil))) pe_str))
  (pss_one (ps_if (pt_cmpR op_eq (pe_call (ok__law_draw T) (hr.mono (by decide)) (by rfl) T.g__law_draw T.F__law_draw.kp T.b__law_draw .nil pass0 (pa_cons (pv 0) (pa_cons pe_int pa_nil))) pe_int (nomark _))
  (pss_one (ps_set (i := 1) sc__law_lines.nd rfl (by first | exact Or.inl rfl | exact Or.inr rfl) (pe_op op_add_str (pv 1) pe_str)))
  pss_nil))))
  (pss_one (ps_ret (pe_op op_add_str (pv 1) (pe_op op_mul_str pe_str (pe_call (ok__law_draw T) (hr.mono (by decide)) (by rfl) T.g__law_draw T.F__law_draw.kp T.b__law_draw .nil pass0 (pa_cons (pv 0) (pa_cons pe_int pa_nil))))))))), ?_⟩
    refine ⟨_, rfl, st, c, 13, rfl, hst, by decide, by decide, fun v H1 v0 v1 hst1 k1 => ?_⟩
    refine ⟨v, rfl, by omega, by omega, for_range (n := v.toNat) (fun i σ H' => ∃ (l : List Nat) (k : Nat) (y2 : Option V), σ = [some (.ref st), some (.str (S l)), y2] ∧ Pre l k ∧ l.length ≤ 13 * i ∧ StOk H' st c ∧ Keep st c H H') ⟨[], 0, none, rfl, .nil, by decide, hst1, k1⟩ ?_ ?_⟩
    · rintro i σ H' hi ⟨l, k, y2, rfl, hp, hl, hs, hk⟩
      have hi13 : i < 13 := by omega
      refine ⟨_, rfl, _, rfl, st, c, rfl, hs, fun z H2 hz hs2 k2 => ?_⟩
      have hgl := good_len hz
      refine ⟨S l, z, rfl, rfl, ?_, ?_⟩
      · rw [SX.S_len]
        exact small_len (show l.length + z.cps.toList.length ≤ 10000 by omega)
      rw [add_S]
      refine ⟨S (l ++ z.cps.toList), "\n", rfl, rfl, ?_, ?_⟩
      · rw [SX.S_len, List.length_append]
        exact small_len (show l.length + z.cps.toList.length + 1 ≤ 10000 by omega)
      rw [add_S]
      have hp1 : Pre (l ++ z.cps.toList ++ ("\n" : Str).cps.toList) (k + 1) := by
        rw [List.append_assoc]
        exact hp.app (pre_good hz)
      have hl1 : (l ++ z.cps.toList ++ ("\n" : Str).cps.toList).length ≤ 13 * i + 11 := by
        rw [List.length_append, List.length_append]
        show l.length + z.cps.toList.length + 1 ≤ _
        omega
      refine ⟨_, rfl, st, c, 4, rfl, hs2, by decide, by decide, fun u H3 u0 u1 hs3 k3 => ?_⟩
      refine ⟨rfl, _, rfl, ite2 (fun c3 => ?_) (fun c3 => ?_)⟩
      · refine ⟨_, rfl, S _, " \n", rfl, rfl, ?_, ?_⟩
        · rw [SX.S_len]
          exact small_len (show (l ++ z.cps.toList ++ ("\n" : Str).cps.toList).length + 2 ≤ 10000 by omega)
        rw [add_S]
        refine ⟨_, _, _, rfl, hp1.app (Pre.app pre_sp pre_nl), ?_, hs3, hk.trans (k2.trans k3)⟩
        rw [List.length_append]
        show (l ++ z.cps.toList ++ ("\n" : Str).cps.toList).length + 2 ≤ _
        omega
      · exact ⟨_, _, _, rfl, hp1, by omega, hs3, hk.trans (k2.trans k3)⟩
    · rintro σ H' ⟨l, k, y2, rfl, hp, hl, hs, hk⟩
      refine ⟨_, rfl, _, rfl, st, c, 3, rfl, hs, by decide, by decide, fun u H3 u0 u1 hs3 k3 => ?_⟩
      refine ⟨[32], u, rfl, rfl, u0, by omega, by decide, ?_⟩
      rw [rep_one]
      have hlr : (List.replicate u.toNat 32).length ≤ 3 := by rw [List.length_replicate]; omega
      refine ⟨S l, S _, rfl, rfl, ?_, ?_⟩
      · rw [SX.S_len, SX.S_len]
        exact small_len (by omega)
      rw [SX.S_cat]
      refine q _ _ _ (hp.app (pre_sps _)) ?_ hs3 (hk.trans k3)
      rw [List.length_append]
      omega
end

end Mine

set_option Elab.async false
set_option linter.all false
set_option maxRecDepth 100000
set_option maxHeartbeats 4000000


namespace Mine
open PySem PySem.Spec PyProof.Rows L2
theorem outT_shaped (k : Str) (n : Int) (hk : k.cps.all (· < 0x110000) = true) : SeqAt.shaped (.tuple [.str k, .int n]) = true := by
  show (((k.cps.all (· < 0x110000)) && (true && true)) && decide _) = true
  rw [hk]
  rfl
section
variable {P : Program} {w : World} {K : PySem.W.Frag} {mg : Str → Option Value} {base : Heap}
def AZX : Str := "a_Zx"
def sp__law_bad : Sp := fun vs H Q _ => ∃ (st c : Addr), vs = [.ref st] ∧ StOk H st c ∧ ∀ (l : List Nat) (H' : Hp), BadP l → StOk H' st c → Keep st c H H' → Q (.str (S l)) H'
theorem ok__law_bad (T : Top P K mg) : FnOk P w K mg base CX0 3 T.a__law_bad T.d__law_bad ["state"]  sp__law_bad := by
  refine T.F__law_bad.ok sc__law_bad (fun vs H Q E h => ?_) (fun cdv A outer s H vs Q E hr h => ?_)
  · obtain ⟨_, _, rfl, _⟩ := h
    rfl
  · obtain ⟨st, c, rfl, hst, q⟩ := h
    have qz : ∀ (z : Str) (H' : Hp), BadP z.cps.toList → StOk H' st c → Keep st c H H' → Q (.str z) H' := fun z H' h1 h2 h3 => by
      have := q _ H' h1 h2 h3
      rw [← str_of z] at this
      exact this
    refine ⟨_, (pss_cons (ps_set (i := 1) sc__law_bad.nd rfl (by first | exact Or.inl rfl | exact Or.inr rfl) (pe_call (ok__law_draw T) (hr.mono (by decide)) (by rfl) T.g__law_draw T.F__law_draw.kp T.b__law_draw .nil pass0 (pa_cons (pv 0) (pa_cons pe_int pa_nil))))
  (pss_cons (ps_if (pt_cmpR op_lt (pv 1) pe_int (nomark _))
  (pss_cons (ps_set (i := 2) sc__law_bad.nd rfl (by first | exact Or.inl rfl | exact Or.inr rfl) pe_str)
  (pss_one (ps_ret (pe_ix ix_str (pv 2) (pe_call (ok__law_draw T) (hr.mono (by decide)) (by rfl) T.g__law_draw T.F__law_draw.kp T.b__law_draw .nil pass0 (pa_cons (pv 0) (pa_cons (pe_callB call_len_str (by rfl) T.m_len PySem.boot_len (pa_cons (pv 2) pa_nil)) pa_nil))) (fun _ _ => rfl)))))
  pss_nil)
  (pss_cons (ps_if (pt_cmpR op_eq (pv 1) pe_int (nomark _))
  (pss_one (ps_ret (pe_call (ok__law_long T) (hr.mono (by decide)) (by rfl) T.g__law_long T.F__law_long.kp T.b__law_long .nil pass0 (pa_cons (pv 0) pa_nil))))
  pss_nil)
  (pss_cons (ps_if (pt_cmpR op_eq (pv 1) pe_int (nomark _))
  (pss_one (ps_ret (pe_op op_add_str (pe_op op_add_str pe_str (pe_ix ix_str pe_str (pe_call (ok__law_draw T) (hr.mono (by decide)) (by rfl) T.g__law_draw T.F__law_draw.kp T.b__law_draw .nil pass0 (pa_cons (pv 0) (pa_cons pe_int pa_nil))) (fun _ _ => rfl))) (pe_op op_mul_str pe_str (pe_call (ok__law_draw T) (hr.mono (by decide)) (by rfl) T.g__law_draw T.F__law_draw.kp T.b__law_draw .nil pass0 (pa_cons (pv 0) (pa_cons pe_int pa_nil)))))))
  pss_nil)
  (pss_cons (ps_if (pt_cmpR op_eq (pv 1) pe_int (nomark _))
  (pss_one (ps_ret (pe_op op_add_str (pe_call (ok__law_digits T) (hr.mono (by decide)) (by rfl) T.g__law_digits T.F__law_digits.kp T.b__law_digits .nil pass0 (pa_cons (pv 0) (pa_cons (pe_op op_add pe_int (pe_call (ok__law_draw T) (hr.mono (by decide)) (by rfl) T.g__law_draw T.F__law_draw.kp T.b__law_draw .nil pass0 (pa_cons (pv 0) (pa_cons pe_int pa_nil)))) pa_nil))) (pe_ix ix_str pe_str (pe_call (ok__law_draw T) (hr.mono (by decide)) (by rfl) T.g__law_draw T.F__law_draw.kp T.b__law_draw .nil pass0 (pa_cons (pv 0) (pa_cons pe_int pa_nil))) (fun _ _ => rfl)))))
  pss_nil)
  (pss_cons (ps_if (pt_cmpR op_eq (pv 1) pe_int (nomark _))
  (pss_one (ps_ret (pe_ix ix_list (pe_lst (pa_cons pe_str (pa_cons pe_str (pa_cons pe_str (pa_cons pe_str (pa_cons pe_str (pa_cons pe_str pa_nil))))))) (pe_call (ok__law_draw T) (hr.mono (by decide)) (by rfl) T.g__law_draw T.F__law_draw.kp T.b__law_draw .nil pass0 (pa_cons (pv 0) (pa_cons pe_int pa_nil))) (fun _ _ => rfl))))
  pss_nil)
  (pss_cons (ps_if (pt_cmpR op_eq (pv 1) pe_int (nomark _))
  (pss_one (ps_ret (pe_op op_add_str (pe_op op_add_str pe_str (pe_ix ix_str pe_str (pe_call (ok__law_draw T) (hr.mono (by decide)) (by rfl) T.g__law_draw T.F__law_draw.kp T.b__law_draw .nil pass0 (pa_cons (pv 0) (pa_cons pe_int pa_nil))) (fun _ _ => rfl))) pe_str)))
  pss_nil)
  (pss_cons (ps_if (pt_cmpR op_eq (pv 1) pe_int (nomark _))
  (pss_one (ps_ret (pe_callTy call_str_int (by rfl) T.m_str (by decide +kernel) (pa_cons (pe_op op_add pe_int (pe_call (ok__law_draw T) (hr.mono (by decide)) (by rfl) T.g__law_draw T.F__law_draw.kp T.b__law_draw .nil pass0 (pa_cons (pv 0) (pa_cons pe_int pa_nil)))) pa_nil))))
  pss_nil)
  (pss_one (ps_ret (pe_call (ok__law_digits T) (hr.mono (by decide)) (by rfl) T.g__law_digits T.F__law_digits.kp T.b__law_digits .nil pass0 (pa_cons (pv 0) (pa_cons (pe_op op_add pe_int (pe_call (ok__law_draw T) (hr.mono (by decide)) (by rfl) T.g__law_draw T.F__law_draw.kp T.b__law_draw .nil pass0 (pa_cons (pv 0) (pa_cons pe_int pa_nil)))) pa_nil))))))))))))), ?_⟩
    refine ⟨_, rfl, st, c, 10, rfl, hst, by decide, by decide, fun v H1 v0 v1 hst1 k1 => ?_⟩
    refine ⟨_, rfl, _, _, rfl, rfl, _, rfl, ite2 (fun c1 => ?_) (fun c1 => ?_)⟩
    · refine ⟨_, rfl, _, rfl, _, rfl, MARKS, rfl, by decide +kernel, st, c, 13, rfl, hst1, by decide, by decide, fun u H2 u0 u1 hs2 k2 => ?_⟩
      obtain ⟨d, hd1, hd2⟩ := sign_at (z := MARKS) (n := 13) u0 u1 (by decide +kernel)
      refine ⟨MARKS, u, d, rfl, rfl, by decide +kernel, hd1, ?_⟩
      exact q [d] H2 (bad_mark hd2) hs2 (k1.trans k2)
    refine ⟨_, rfl, rfl, _, rfl, ite2 (fun c2 => ?_) (fun c2 => ?_)⟩
    · exact ⟨_, rfl, st, c, rfl, hst1, fun l H2 hl hs2 k2 => q l H2 hl hs2 (k1.trans k2)⟩
    refine ⟨_, rfl, rfl, _, rfl, ite2 (fun c3 => ?_) (fun c3 => ?_)⟩
    · refine ⟨_, rfl, st, c, 10, rfl, hst1, by decide, by decide, fun u H2 u0 u1 hs2 k2 => ?_⟩
      obtain ⟨d, hd1, hd2⟩ := sign_at (z := DIG) (n := 10) u0 u1 (by decide +kernel)
      refine ⟨DIG, u, d, rfl, rfl, by decide +kernel, hd1, ?_⟩
      refine ⟨S [48], S [d], rfl, rfl, by show 1 + 1 ≤ sizeLine; decide, ?_⟩
      rw [SX.S_cat]
      refine ⟨_, rfl, st, c, 3, rfl, hs2, by decide, by decide, fun x H3 x0 x1 hs3 k3 => ?_⟩
      obtain ⟨k, rfl, hk⟩ := nat_in (n := 3) x0 x1
      refine ⟨[55], _, rfl, rfl, by omega, by omega, by decide, ?_⟩
      rw [rep_one]
      refine ⟨S ([48] ++ [d]), S _, rfl, rfl, ?_, ?_⟩
      · rw [SX.S_len, SX.S_len, List.length_replicate]
        show 2 + k ≤ sizeLine
        exact small_len (by omega)
      rw [SX.S_cat]
      exact q _ H3 (bad_zero (dig_of (decide_eq_true hd2)) hk) hs3 (k1.trans (k2.trans k3))
    refine ⟨_, rfl, rfl, _, rfl, ite2 (fun c4 => ?_) (fun c4 => ?_)⟩
    · refine ⟨_, rfl, _, rfl, st, c, 4, rfl, hst1, by decide, by decide, fun u H2 u0 u1 hs2 k2 => ?_⟩
      obtain ⟨k, rfl, hk⟩ := nat_in (n := 4) u0 u1
      refine ⟨_, _, rfl, rfl, st, c, 1 + k, ?_, by omega, by omega, hs2, fun l H3 hl hs3 k3 => ?_⟩
      · have e : (1 : Int) + (k : Int) = ((1 + k : Nat) : Int) := by omega
        show [V.ref st, V.int (1 + (k : Int))] = _
        rw [e]
      refine ⟨_, rfl, st, c, 4, rfl, hs3, by decide, by decide, fun x H4 x0 x1 hs4 k4 => ?_⟩
      obtain ⟨d, hd1, hd2⟩ := sign_at (z := AZX) (n := 4) x0 x1 (by decide +kernel)
      refine ⟨AZX, x, d, rfl, rfl, by decide +kernel, hd1, ?_⟩
      have hlen := hl.len
      refine ⟨S l, S [d], rfl, rfl, ?_, ?_⟩
      · rw [SX.S_len]
        show l.length + 1 ≤ sizeLine
        exact small_len (by omega)
      rw [SX.S_cat]
      have e2 : AZX.cps.toList.all (fun d => !isDig d && inRun d) = true := by decide +kernel
      have e3 := List.all_eq_true.mp e2 d hd2
      rw [Bool.and_eq_true, Bool.not_eq_true'] at e3
      exact q _ H4 (bad_tail hl (by omega) e3.1 e3.2) hs4 (k1.trans (k2.trans (k3.trans k4)))
    refine ⟨_, rfl, rfl, _, rfl, ite2 (fun c5 => ?_) (fun c5 => ?_)⟩
    · refine ⟨by show 6 ≤ sizeLine; decide, fun p np => ?_⟩
      have npp := hst1.ne np
      refine ⟨_, rfl, st, c, 6, rfl, hst1.same (same_new np), by decide, by decide, fun u H3 u0 u1 hs3 k3 => ?_⟩
      obtain ⟨z, hz, hg⟩ := getL (l := HX6) u0 (n := 6) u1 (by decide)
      have hp3 : H3 p = some (.lst (HX6.map V.str)) := k3 _ _ npp.1 npp.2 upd_same
      exact ⟨p, _, u, .str z, rfl, rfl, SqL.of hp3, hg V.str, qz z H3 (bad_hx6 hz) hs3 (k1.trans ((Keep.same (same_new np)).trans k3))⟩
    refine ⟨_, rfl, rfl, _, rfl, ite2 (fun c6 => ?_) (fun c6 => ?_)⟩
    · refine ⟨_, rfl, st, c, 15, rfl, hst1, by decide, by decide, fun u H2 u0 u1 hs2 k2 => ?_⟩
      obtain ⟨d, hd1, hd2⟩ := sign_at (z := HX15) (n := 15) u0 u1 (by decide +kernel)
      refine ⟨HX15, u, d, rfl, rfl, by decide +kernel, hd1, ?_⟩
      refine ⟨S [48, 120], S [d], rfl, rfl, by show 2 + 1 ≤ sizeLine; decide, ?_⟩
      rw [SX.S_cat]
      refine ⟨S ([48, 120] ++ [d]), "0af9c3e1", rfl, rfl, by show 3 + 8 ≤ sizeLine; decide, ?_⟩
      rw [add_S]
      exact q _ H2 (bad_hx9 hd2) hs2 (k1.trans k2)
    refine ⟨_, rfl, rfl, _, rfl, ite2 (fun c7 => ?_) (fun c7 => ?_)⟩
    · refine ⟨_, rfl, st, c, 100000, rfl, hst1, by decide, by decide, fun u H2 u0 u1 hs2 k2 => ?_⟩
      obtain ⟨k, rfl, hk⟩ := nat_in (n := 100000) u0 u1
      refine ⟨_, _, rfl, rfl, ?_⟩
      have e : (4294967296 : Int) + (k : Int) = ((4294967296 + k : Nat) : Int) := by omega
      refine ⟨((4294967296 + k : Nat) : Int), ?_, ?_, ?_⟩
      · show [V.int (4294967296 + (k : Int))] = _
        rw [e]
      · have e2 : (((4294967296 + k : Nat) : Int).natAbs) = 4294967296 + k := by omega
        rw [e2]
        exact Nat.lt_trans ((Nat.log2_lt (by omega)).mpr (show 4294967296 + k < 2 ^ 40 by omega)) (by decide)
      · have g := q (TL.numL (4294967296 + k)) H2 (bad_big (by omega) (by omega)) hs2 (k1.trans k2)
        have e3 : S (TL.numL (4294967296 + k)) = Str.ofString (toString ((4294967296 + k : Nat) : Int)) := (SX.num_S _).symm
        rw [e3] at g
        exact g
    · refine ⟨_, rfl, _, rfl, st, c, 8, rfl, hst1, by decide, by decide, fun u H2 u0 u1 hs2 k2 => ?_⟩
      obtain ⟨k, rfl, hk⟩ := nat_in (n := 8) u0 u1
      refine ⟨_, _, rfl, rfl, st, c, 11 + k, ?_, by omega, by omega, hs2, fun l H3 hl hs3 k3 => ?_⟩
      · have e : (11 : Int) + (k : Int) = ((11 + k : Nat) : Int) := by omega
        show [V.ref st, V.int (11 + (k : Int))] = _
        rw [e]
      exact q _ H3 (bad_digits hl (by omega) (by omega)) hs3 (k1.trans (k2.trans k3))
def sp__law_outcome : Sp := fun vs H Q _ => ∃ (l : List Nat) (mo : Option (List TV)) (e : Nat), vs = [.str (S l)] ∧ l.length ≤ 100000 ∧ Going mo e [] l 1 ∧
  (mo = none → ∀ (H' : Hp) (t : Addr), Same H H' → H t = none → H' t = some (.tup [.str "error", .int (e : Int)]) → Q (.ref t) H') ∧
  (∀ (ts : List TV) (H' : Hp) (t : Addr) (n : Int), mo = some ts → Same H H' → H t = none → H' t = some (.tup [.str "tokens", .int n]) → Q (.ref t) H')
theorem ok__law_outcome (T : Top P K mg) : FnOk P w K mg base CX0 6 T.a__law_outcome T.d__law_outcome ["text"]  sp__law_outcome := by
  refine T.F__law_outcome.ok sc__law_outcome (fun vs H Q E h => ?_) (fun cdv A outer s H vs Q E hr h => ?_)
  · obtain ⟨_, _, _, rfl, _⟩ := h
    rfl
  · obtain ⟨l, mo, e, rfl, hl, hgo, qe, qt⟩ := h
    refine ⟨_, (pss_cons (ps_try_as (i := 2) (Wout := fun _ _ _ _ => False) rfl rfl sc__law_outcome.nd rfl rfl ⟨rfl, by decide, Or.inl T.gc_TextError⟩ takes0 (fun W pn xe tk _ => (pss_one (ps_set (i := 1) sc__law_outcome.nd rfl (by first | exact Or.inl rfl | exact Or.inr rfl) (pe_callS (ok_tokenize T) (hr.mono (by decide)) (by rfl) T.g_tokenize T.F_tokenize.kp T.b_tokenize (fun σ => passAt tk σ) (pa_cons (pv 0) pa_nil))))) (fun a oe cls d pn hz hf => (pss_cons (ps_if (PW.pt (pw_or (pt_val (pe_callB (call_isD T.xd_TextError hz hf) (by rfl) T.m_isinstance (by decide +kernel) (pa_cons (pv 2) (pa_cons (pe_gr (by rfl) T.gc_RuleError) pa_nil)))) (pw_or1 (pt_val (pe_callB (call_isD T.xd_TextError hz hf) (by rfl) T.m_isinstance (by decide +kernel) (pa_cons (pv 2) (pa_cons (pe_gr (by rfl) T.gc_CommandError) pa_nil)))))))
  (pss_one (ps_ret (pe_tup (pa_cons pe_str (pa_cons pe_int pa_nil)))))
  pss_nil)
  (pss_cons (ps_if (PW.pt (pw_or (pt_not (pt_val (pe_callB (call_isD T.xd_TextError hz hf) (by rfl) T.m_isinstance (by decide +kernel) (pa_cons (pv 2) (pa_cons (pe_gr (by rfl) T.gc_DeadbeatError) pa_nil))))) (pw_or (pt_not (pt_val (pe_callB (call_isD T.xd_TextError hz hf) (by rfl) T.m_isinstance (by decide +kernel) (pa_cons (pv 2) (pa_cons (pe_ty (T := "ValueError") (by rfl) T.m_ValueError (by decide +kernel)) pa_nil))))) (pw_or1 (pt_val (pe_callB (show CallR _ (Value.builtin "isinstance") (rIsi K) from call_isi) (by rfl) T.m_isinstance (by decide +kernel) (by exact (pa_cons (pe_xf T.xf_TextError T.x_TextError.noN hz hf (pv 2)) (pa_cons (pe_ty (T := "bool") (by rfl) T.m_bool (by decide +kernel)) pa_nil)))))))))
  (pss_one (ps_ret (pe_tup (pa_cons pe_str (pa_cons pe_int pa_nil)))))
  pss_nil)
  (pss_one (ps_ret (pe_tup (by exact (pa_cons pe_str (pa_cons (pe_xf T.xf_TextError T.x_TextError.noN hz hf (pv 2)) pa_nil))))))))))
  (pss_cons (ps_if (pt_not (pt_val (pe_callB call_isi (by rfl) T.m_isinstance (by decide +kernel) (pa_cons (pv 1) (pa_cons (pe_ty (T := "list") (by rfl) T.m_list (by decide +kernel)) pa_nil)))))
  (pss_one (ps_ret (pe_tup (pa_cons pe_str (pa_cons pe_int pa_nil)))))
  pss_nil)
  (pss_one (ps_ret (pe_tup (pa_cons pe_str (pa_cons (pe_callB call_len_seq (by rfl) T.m_len PySem.boot_len (pa_cons (pv 1) pa_nil)) pa_nil))))))), ?_⟩
    refine ⟨_, rfl, l, mo, e, rfl, hl, hgo, fun ts H1 p as hm sm np hp hlen => ?_, fun hm H1 d sm hd hx => ?_⟩
    · refine ⟨_, rfl, _, _, _, _, true, rfl, .ty _, .base (.lst hp), kit_ty (by decide +kernel), true, rfl, iteF ?_⟩
      refine ⟨_, rfl, p, _, rfl, .inl (SqL.of hp), by show 2 ≤ sizeLine; decide, fun t nt => ?_⟩
      exact qt ts _ t _ hm (sm.trans (same_new nt)) (sm.free nt) upd_same
    · refine ⟨true, T.x_TextError.te, fun _ a na => ?_, fun q => Bool.noConfusion q⟩
      refine if_or (a := false) (b := false) (fun Q' q' => ⟨_, rfl, _, (.ref T.C_RuleError), false, d, _, rfl, rfl, rfl, fun u h => h, T.kt_TextError_RuleError, hx, false, rfl, q'⟩) (fun _ Q' q' => ⟨_, rfl, _, (.ref T.C_CommandError), false, d, _, rfl, rfl, rfl, fun u h => h, T.kt_TextError_CommandError, hx, false, rfl, q'⟩) (iteF ?_)
      dsimp only [tNext, tSeq]
      refine if_or (a := false) (b := false) (fun Q' q' => ⟨_, rfl, _, (.ref T.C_DeadbeatError), true, d, _, rfl, rfl, rfl, fun u h => h, T.kt_TextError_DeadbeatError, hx, true, rfl, q'⟩) (fun _ Q' q' => or_test (a := false) (b := false) (fun Q'' q'' => ⟨_, rfl, _, (.type "ValueError"), true, d, _, rfl, rfl, rfl, fun u h => h, T.kt_TextError_ValueError, hx, true, rfl, q''⟩) (fun _ Q'' q'' => ⟨_, rfl, rfl, rfl, d, _, _, rfl, hx, rfl, _, _, _, _, false, rfl, .ty _, .base (.int _), kit_ty (by decide +kernel), false, rfl, q''⟩) q') (iteF ?_)
      dsimp only [tNext]
      refine ⟨_, rfl, rfl, rfl, d, _, _, rfl, hx, rfl, by show 2 ≤ sizeLine; decide, fun t nt => ?_⟩
      exact qe hm _ t (sm.trans (same_new nt)) (sm.free nt) upd_same
def sp_law (K : PySem.W.Frag) : Sp := fun vs H Q _ => ∃ (a : Addr) (ns : List Int), vs = [.ref a] ∧ SqL K H a (ns.map V.int) ∧ ns.length ≤ 63 ∧ ∀ H', Q (.bl true) H'
theorem ok_law (T : Top P K mg) : FnOk P w K mg base CX0 7 T.a_law T.d_law ["script"]  (sp_law K) := by
  refine T.F_law.ok sc_law (fun vs H Q E h => ?_) (fun cdv A outer s H vs Q E hr h => ?_)
  · obtain ⟨_, _, rfl, _⟩ := h
    rfl
  · obtain ⟨a, ns, rfl, hS, hlen, q⟩ := h
    refine ⟨_, (pss_cons (ps_set (i := 1) sc_law.nd rfl (by first | exact Or.inl rfl | exact Or.inr rfl) (pe_call (ok__law_state T) (hr.mono (by decide)) (by rfl) T.g__law_state T.F__law_state.kp T.b__law_state .nil pass0 (pa_cons (pv 0) pa_nil)))
  (pss_cons (ps_set (i := 2) sc_law.nd rfl (by first | exact Or.inl rfl | exact Or.inr rfl) (pe_call (ok__law_lines T) (hr.mono (by decide)) (by rfl) T.g__law_lines T.F__law_lines.kp T.b__law_lines .nil pass0 (pa_cons (pv 1) pa_nil)))
  (pss_cons (ps_set (i := 3) sc_law.nd rfl (by first | exact Or.inl rfl | exact Or.inr rfl) (pe_call (ok__law_bad T) (hr.mono (by decide)) (by rfl) T.g__law_bad T.F__law_bad.kp T.b__law_bad .nil pass0 (pa_cons (pv 1) pa_nil)))
  (pss_cons (ps_set (i := 4) sc_law.nd rfl (by first | exact Or.inl rfl | exact Or.inr rfl) (pe_ix ix_list (pe_lst (pa_cons pe_str (pa_cons pe_str (pa_cons pe_str (pa_cons pe_str (pa_cons pe_str pa_nil)))))) (pe_call (ok__law_draw T) (hr.mono (by decide)) (by rfl) T.g__law_draw T.F__law_draw.kp T.b__law_draw .nil pass0 (pa_cons (pv 1) (pa_cons pe_int pa_nil))) (fun _ _ => rfl)))
  (pss_cons (ps_set (i := 5) sc_law.nd rfl (by first | exact Or.inl rfl | exact Or.inr rfl) (pe_op op_add pe_int (pe_callB call_len_seq (by rfl) T.m_len PySem.boot_len (pa_cons (pe_lc (own := [("char", 6)]) (g := gName 6) rfl sc_law.nd (pi_str (pv 2)) (blkOk_by (N := ["script", "state", "before", "bad", "behind", "line", "char", "outcome"]) (sc := defScope s_law) (by decide +kernel)) (fun _ _ _ _ _ => pg_name (i := 6) sc_law.nd rfl (Or.inl rfl)) (fun _ _ _ _ _ => pts_one (pt_cmpR op_eq (pv 6) pe_str (nomark _))) (fun _ _ _ _ _ => (pv 6))) pa_nil))))
  (pss_cons (ps_if (pt_cmpR (op_neD hr.units) (pe_call (ok__law_outcome T) (hr.mono (by decide)) (by rfl) T.g__law_outcome T.F__law_outcome.kp T.b__law_outcome .nil pass0 (pa_cons (pe_op op_add_str (pe_op op_add_str (pv 2) (pv 3)) (pv 4)) pa_nil)) (pe_tup (pa_cons pe_str (pa_cons (pv 5) pa_nil))) (nomark _))
  (pss_one (ps_ret pe_bl))
  pss_nil)
  (pss_cons (ps_set (i := 7) sc_law.nd rfl (by first | exact Or.inl rfl | exact Or.inr rfl) (pe_call (ok__law_outcome T) (hr.mono (by decide)) (by rfl) T.g__law_outcome T.F__law_outcome.kp T.b__law_outcome .nil pass0 (pa_cons (pe_op op_add_str (pe_op op_add_str (pe_op op_add_str (pe_op op_add_str (pv 2) pe_str) (pv 3)) pe_str) (pe_call (ok__law_near T) (hr.mono (by decide)) (by rfl) T.g__law_near T.F__law_near.kp T.b__law_near .nil pass0 (pa_cons (pv 1) pa_nil))) pa_nil)))
  (pss_one (ps_ret (pe_and (pe_cmpR op_eq (pe_ix ix_tup (pv 7) pe_int (fun _ _ => rfl)) pe_str (nomark _)) (pe_one (pe_cmpR op_eq (pe_ix ix_tup (pe_call (ok__law_outcome T) (hr.mono (by decide)) (by rfl) T.g__law_outcome T.F__law_outcome.kp T.b__law_outcome .nil pass0 (pa_cons (pe_op op_add_str (pv 2) (pe_call (ok__law_near T) (hr.mono (by decide)) (by rfl) T.g__law_near T.F__law_near.kp T.b__law_near .nil pass0 (pa_cons (pv 1) pa_nil))) pa_nil)) pe_int (fun _ _ => rfl)) pe_str (nomark _))))))))))))), ?_⟩
    refine ⟨_, rfl, a, ns, rfl, hS, hlen, fun H1 st c s1 nst nc hst => ?_⟩
    refine ⟨_, rfl, st, c, rfl, hst, fun bl k H2 hpre hbl hs2 k2 => ?_⟩
    refine ⟨_, rfl, st, c, rfl, hs2, fun l H3 hbad hs3 k3 => ?_⟩
    refine ⟨by show 5 ≤ sizeLine; decide, fun p np => ?_⟩
    have npp := hs3.ne np
    refine ⟨_, rfl, st, c, 5, rfl, hs3.same (same_new np), by decide, by decide, fun u H4 u0 u1 hs4 k4 => ?_⟩
    obtain ⟨b, hb, hg⟩ := getL (l := BEH) u0 (n := 5) u1 (by decide)
    have hp4 : H4 p = some (.lst (BEH.map V.str)) := k4 _ _ npp.1 npp.2 upd_same
    refine ⟨p, _, u, .str b, rfl, rfl, SqL.of hp4, hg V.str, ?_⟩
    -- line
    have hbl2 : bl.length ≤ 100000 := by omega
    refine ⟨_, rfl, S bl, rfl, fun D hD => ?_⟩
    refine lc_it walk_str (fun i H' => H' = upd H4 D (.lst (((bl.take i).filter (· == 10)).map fun c => V.str ⟨#[c]⟩))) rfl (fun _ _ _ _ => trivial) ?_ ?_
    · rintro i x H' H'' hi rfl ⟨rfl, c, hc, rfl⟩
      have hc' : bl[i]? = some c := by
        rw [← hc]
        show _ = bl.toArray[i]?
        simp
      have e10 : decide (V.str ⟨#[c]⟩ = V.str "\n") = decide (c = 10) := sgn_eq (c := c) (d := 10)
      refine ⟨rfl, ?_⟩
      refine ⟨_, rfl, rfl, _, rfl, ?_⟩
      rw [e10]
      by_cases h : c = 10
      · rw [decide_eq_true h]
        refine iteT ⟨_, rfl, _, upd_same, ?_, ?_⟩
        · rw [List.length_map]
          refine Nat.lt_of_le_of_lt (List.length_filter_le _ _) ?_
          rw [List.length_take]
          exact Nat.lt_of_le_of_lt (Nat.le_trans (Nat.min_le_right _ _) hbl2) (by decide)
        · subst h
          rw [upd_upd, List.take_add_one, hc', List.filter_append, List.map_append]
          rfl
      · rw [decide_eq_false h]
        refine iteF ?_
        have e : ([c] : List Nat).filter (· == 10) = [] := by simp [h]
        rw [List.take_add_one, hc', List.filter_append]
        show _ = upd H4 D (.lst ((((bl.take i).filter (· == 10)) ++ ([c] : List Nat).filter (· == 10)).map _))
        rw [e, List.append_nil]
    rintro H5 rfl
    have e : (S bl).cps.size = bl.length := by simp
    rw [e, List.take_length]
    refine ⟨D, _, rfl, .inl (SqL.of upd_same), ?_⟩
    have ek : (List.map (fun c => V.str ⟨#[c]⟩) (List.filter (fun x => x == 10) bl)).length = k := by
      rw [List.length_map, ← List.countP_eq_length_filter]
      exact hpre.cnt
    rw [ek]
    refine ⟨_, _, rfl, rfl, ?_⟩
    have hll := hbad.len
    have hbb : b.cps.toList.length ≤ 4 := by
      have e : BEH.all (fun b => decide (b.cps.toList.length ≤ 4)) = true := by decide +kernel
      exact of_decide_eq_true (List.all_eq_true.mp e b hb)
    have cat1 : S bl ++ S l = S (bl ++ l) := SX.S_cat _ _
    -- the faulty text
    refine ⟨_, rfl, _, rfl, S bl, S l, rfl, rfl, ?_, _, rfl, _, b, rfl, rfl, ?_, bl ++ l ++ b.cps.toList, none, 1 + k, ?_, ?_, ?_, fun _ H6 t s6 nt ht => ?_, fun ts _ _ _ hm => by cases hm⟩
    · rw [SX.S_len, SX.S_len]
      exact small_len (by omega)
    · rw [cat1, SX.S_len, List.length_append]
      exact small_len (show bl.length + l.length + b.cps.toList.length ≤ 10000 by omega)
    · rw [cat1, add_S]
      rfl
    · rw [List.length_append, List.length_append]
      omega
    · show LexE _ _ _
      rw [List.append_assoc]
      exact hpre.bad _ _ _ (hbad.lex b hb _)
    refine ⟨_, rfl, by show 2 ≤ sizeLine; decide, fun t2 nt2 => ?_⟩
    have ht2 : t ≠ t2 := fun z => by rw [z, nt2] at ht; cases ht
    have ek2 : (1 : Int) + (k : Int) = ((1 + k : Nat) : Int) := by omega
    have eq1 : (!PyData.eqv (.tuple [.str "error", .int ((1 + k : Nat) : Int)]) (.tuple [.str "error", .int (1 + (k : Int))])) = false := by
      rw [ek2]
      simp [PyData.eqv, PyData.eqvAll]
    refine ⟨.tuple [.str "error", .int ((1 + k : Nat) : Int)], .tuple [.str "error", .int (1 + (k : Int))], .tup (.of (by rw [upd_ne ht2]; exact ht)) (.cons (.str _) (.cons (.int _) .nil)), .tup (.of upd_same) (.cons (.str _) (.cons (.int _) .nil)), outT_shaped _ _ (by decide +kernel), outT_shaped _ _ (by decide +kernel), false, congrArg V.bl eq1, iteF ?_⟩
    dsimp only [tNext]
    have hsG : StOk (upd H6 t2 (.tup [.str "error", .int (1 + (k : Int))])) st c := ((hs4.same (same_new hD)).same s6).same (same_new nt2)
    refine ⟨_, rfl, S bl, "#", rfl, rfl, ?_, _, rfl, _, S l, rfl, rfl, ?_, _, "\n", rfl, rfl, ?_, _, rfl, st, c, rfl, hsG, fun z H7 hz hs7 k7 => ?_⟩
    · rw [SX.S_len]
      exact small_len (show bl.length + 1 ≤ 10000 by omega)
    · rw [add_S, SX.S_len, SX.S_len, List.length_append]
      exact small_len (show bl.length + 1 + l.length ≤ 10000 by omega)
    · rw [add_S, SX.S_cat, SX.S_len, List.length_append, List.length_append]
      exact small_len (show bl.length + 1 + l.length + 1 ≤ 10000 by omega)
    have cat2 : S bl ++ ("#" : Str) ++ S l ++ ("\n" : Str) = S (bl ++ [35] ++ l ++ [10]) := by
      rw [add_S, SX.S_cat, add_S]
      rfl
    rw [cat2]
    have hzl := (near_ok hz).1
    have hzl2 : z.cps.toList.length = z.length := by simp [Str.length]
    obtain ⟨ts2, e2, hx2⟩ := hpre.good (35 :: (l ++ 10 :: z.cps.toList)) 1 (com_near hbad hz (1 + k))
    refine ⟨S _, z, rfl, rfl, ?_, bl ++ [35] ++ l ++ [10] ++ z.cps.toList, some ts2, e2, ?_, ?_, ⟨ts2, rfl, ?_⟩, fun hm => (by cases hm), fun ts H8 t3 n hm s8 nt3 ht3 => ?_⟩
    · rw [SX.S_len]
      show (bl ++ [35] ++ l ++ [10]).length + z.length ≤ sizeLine
      have : (bl ++ [35] ++ l ++ [10]).length = bl.length + 1 + l.length + 1 := by simp; omega
      exact small_len (by omega)
    · rw [add_S]
      rfl
    · have : (bl ++ [35] ++ l ++ [10] ++ z.cps.toList).length = bl.length + 1 + l.length + 1 + z.cps.toList.length := by simp; omega
      omega
    · have e9 : bl ++ [35] ++ l ++ [10] ++ z.cps.toList = bl ++ 35 :: (l ++ 10 :: z.cps.toList) := by simp
      rw [e9]
      exact hx2
    dsimp only [gName]
    refine ⟨_, rfl, t3, _, 0, _, rfl, rfl, SqT.of ht3, atI_nat (j := 0) rfl, rfl, _, rfl, ?_⟩
    rw [decide_eq_true rfl]
    refine iteT ?_
    refine ⟨_, rfl, _, rfl, st, c, rfl, hs7.same s8, fun z2 H9 hz2 hs9 k9 => ?_⟩
    have hzl3 := (near_ok hz2).1
    have hzl4 : z2.cps.toList.length = z2.length := by simp [Str.length]
    obtain ⟨ts3, e3, hx3⟩ := hpre.good z2.cps.toList 1 ((near_ok hz2).2 (1 + k))
    refine ⟨S bl, z2, rfl, rfl, ?_, bl ++ z2.cps.toList, some ts3, e3, ?_, ?_, ⟨ts3, rfl, hx3⟩, fun hm => (by cases hm), fun ts H10 t4 n2 hm2 s10 nt4 ht4 => ?_⟩
    · rw [SX.S_len]
      exact small_len (by omega)
    · rw [add_S]
      rfl
    · rw [List.length_append]
      omega
    refine ⟨t4, _, 0, _, rfl, rfl, SqT.of ht4, atI_nat (j := 0) rfl, rfl, ?_⟩
    rw [decide_eq_true rfl]
    exact q _
end

end Mine

set_option Elab.async false
set_option linter.all false
set_option maxRecDepth 100000
set_option maxHeartbeats 4000000


namespace Mine
open PySem PySem.Spec PyProof.Rows L2
def top_mk {P : Program} {w : World} {K : PySem.W.Frag} {h : Heap} {mg : Str → Option Value} (X : K.In h) (G : h.Ns mainGlobals mg)
    {a_decimal : Addr} {od_decimal an_decimal : Option Addr} {sl_decimal : Array (Option Value)} {oc_decimal kV_decimal dc_decimal pm_decimal cd_decimal ct_decimal : Value}
    {a_decimal_number : Addr} {od_decimal_number an_decimal_number : Option Addr} {sl_decimal_number : Array (Option Value)} {oc_decimal_number kV_decimal_number dc_decimal_number pm_decimal_number cd_decimal_number ct_decimal_number : Value}
    {a__law_state : Addr} {od__law_state an__law_state : Option Addr} {sl__law_state : Array (Option Value)} {oc__law_state kV__law_state dc__law_state pm__law_state cd__law_state ct__law_state : Value}
    {a__law_draw : Addr} {od__law_draw an__law_draw : Option Addr} {sl__law_draw : Array (Option Value)} {oc__law_draw kV__law_draw dc__law_draw pm__law_draw cd__law_draw ct__law_draw : Value}
    {a__in_run : Addr} {od__in_run an__in_run : Option Addr} {sl__in_run : Array (Option Value)} {oc__in_run kV__in_run dc__in_run pm__in_run cd__in_run ct__in_run : Value}
    {a__run : Addr} {od__run an__run : Option Addr} {sl__run : Array (Option Value)} {oc__run kV__run dc__run pm__run cd__run ct__run : Value}
    {a__comment_end : Addr} {od__comment_end an__comment_end : Option Addr} {sl__comment_end : Array (Option Value)} {oc__comment_end kV__comment_end dc__comment_end pm__comment_end cd__comment_end ct__comment_end : Value}
    {a__longest_sign : Addr} {od__longest_sign an__longest_sign : Option Addr} {sl__longest_sign : Array (Option Value)} {oc__longest_sign kV__longest_sign dc__longest_sign pm__longest_sign cd__longest_sign ct__longest_sign : Value}
    {a__consists_of : Addr} {od__consists_of an__consists_of : Option Addr} {sl__consists_of : Array (Option Value)} {oc__consists_of kV__consists_of dc__consists_of pm__consists_of cd__consists_of ct__consists_of : Value}
    {a__hex_number : Addr} {od__hex_number an__hex_number : Option Addr} {sl__hex_number : Array (Option Value)} {oc__hex_number kV__hex_number dc__hex_number pm__hex_number cd__hex_number ct__hex_number : Value}
    {a__number : Addr} {od__number an__number : Option Addr} {sl__number : Array (Option Value)} {oc__number kV__number dc__number pm__number cd__number ct__number : Value}
    {a_is_reserved : Addr} {od_is_reserved an_is_reserved : Option Addr} {sl_is_reserved : Array (Option Value)} {oc_is_reserved kV_is_reserved dc_is_reserved pm_is_reserved cd_is_reserved ct_is_reserved : Value}
    {a__run_token : Addr} {od__run_token an__run_token : Option Addr} {sl__run_token : Array (Option Value)} {oc__run_token kV__run_token dc__run_token pm__run_token cd__run_token ct__run_token : Value}
    {a_tokenize : Addr} {od_tokenize an_tokenize : Option Addr} {sl_tokenize : Array (Option Value)} {oc_tokenize kV_tokenize dc_tokenize pm_tokenize cd_tokenize ct_tokenize : Value}
    {a__law_good : Addr} {od__law_good an__law_good : Option Addr} {sl__law_good : Array (Option Value)} {oc__law_good kV__law_good dc__law_good pm__law_good cd__law_good ct__law_good : Value}
    {a__law_digits : Addr} {od__law_digits an__law_digits : Option Addr} {sl__law_digits : Array (Option Value)} {oc__law_digits kV__law_digits dc__law_digits pm__law_digits cd__law_digits ct__law_digits : Value}
    {a__law_long : Addr} {od__law_long an__law_long : Option Addr} {sl__law_long : Array (Option Value)} {oc__law_long kV__law_long dc__law_long pm__law_long cd__law_long ct__law_long : Value}
    {a__law_bad : Addr} {od__law_bad an__law_bad : Option Addr} {sl__law_bad : Array (Option Value)} {oc__law_bad kV__law_bad dc__law_bad pm__law_bad cd__law_bad ct__law_bad : Value}
    {a__law_near : Addr} {od__law_near an__law_near : Option Addr} {sl__law_near : Array (Option Value)} {oc__law_near kV__law_near dc__law_near pm__law_near cd__law_near ct__law_near : Value}
    {a__law_lines : Addr} {od__law_lines an__law_lines : Option Addr} {sl__law_lines : Array (Option Value)} {oc__law_lines kV__law_lines dc__law_lines pm__law_lines cd__law_lines ct__law_lines : Value}
    {a__law_outcome : Addr} {od__law_outcome an__law_outcome : Option Addr} {sl__law_outcome : Array (Option Value)} {oc__law_outcome kV__law_outcome dc__law_outcome pm__law_outcome cd__law_outcome ct__law_outcome : Value}
    {a_law : Addr} {od_law an_law : Option Addr} {sl_law : Array (Option Value)} {oc_law kV_law dc_law pm_law cd_law ct_law : Value}
    {C_TextError : Addr}
    {C_DeadbeatError : Addr}
    {C_CommandError : Addr}
    {C_RuleError : Addr}
    {f_TextError cda_TextError cc_TextError N_TextError : Addr} {nm_TextError q_TextError file_TextError : Str} {bs_TextError bm_TextError sub_TextError : List Value} {sn_TextError : List Str} {ab_TextError : Bool} {col_TextError : Option Bool} {dd_TextError od_TextError an_TextError cdd_TextError cld_TextError : Option Addr} {m0_TextError m1_TextError m2_TextError m3_TextError m5_TextError : Option Value} {oc_TextError dc_TextError pm_TextError ct_TextError ccl_TextError cl_TextError : Value} {osl_TextError ccs_TextError csl_TextError : Array (Option Value)} {vs_TextError : Array Value} {tq_TextError tf_TextError : Tok}
    {t_PIECE : Tok}
    {t_PIECE_DIGITS : Tok}
    {t_GREATEST_WORD : Tok}
    {t_DIGITS : Tok}
    {t_LONGEST_DECIMAL : Tok}
    {t_LETTERS : Tok}
    {p_SIGNS : Addr} {n_SIGNS : Nat} {us_SIGNS : Array Value} {sl_SIGNS : Array (Option Value)}
    {t_HEX_DIGITS : Tok}
    {t_LONGEST_HEX : Tok}
    {p_RESERVED : Addr} {n_RESERVED : Nat} {us_RESERVED : Array Value} {sl_RESERVED : Array (Option Value)}
    {t_LONGEST_NAME : Tok}
    (n_decimal : PySem.W.nsIn K mainGlobals "decimal" = some (some (.ref a_decimal)))
    (n_decimal_number : PySem.W.nsIn K mainGlobals "decimal_number" = some (some (.ref a_decimal_number)))
    (n__law_state : PySem.W.nsIn K mainGlobals "_law_state" = some (some (.ref a__law_state)))
    (n__law_draw : PySem.W.nsIn K mainGlobals "_law_draw" = some (some (.ref a__law_draw)))
    (n__in_run : PySem.W.nsIn K mainGlobals "_in_run" = some (some (.ref a__in_run)))
    (n__run : PySem.W.nsIn K mainGlobals "_run" = some (some (.ref a__run)))
    (n__comment_end : PySem.W.nsIn K mainGlobals "_comment_end" = some (some (.ref a__comment_end)))
    (n__longest_sign : PySem.W.nsIn K mainGlobals "_longest_sign" = some (some (.ref a__longest_sign)))
    (n__consists_of : PySem.W.nsIn K mainGlobals "_consists_of" = some (some (.ref a__consists_of)))
    (n__hex_number : PySem.W.nsIn K mainGlobals "_hex_number" = some (some (.ref a__hex_number)))
    (n__number : PySem.W.nsIn K mainGlobals "_number" = some (some (.ref a__number)))
    (n_is_reserved : PySem.W.nsIn K mainGlobals "is_reserved" = some (some (.ref a_is_reserved)))
    (n__run_token : PySem.W.nsIn K mainGlobals "_run_token" = some (some (.ref a__run_token)))
    (n_tokenize : PySem.W.nsIn K mainGlobals "tokenize" = some (some (.ref a_tokenize)))
    (n__law_good : PySem.W.nsIn K mainGlobals "_law_good" = some (some (.ref a__law_good)))
    (n__law_digits : PySem.W.nsIn K mainGlobals "_law_digits" = some (some (.ref a__law_digits)))
    (n__law_long : PySem.W.nsIn K mainGlobals "_law_long" = some (some (.ref a__law_long)))
    (n__law_bad : PySem.W.nsIn K mainGlobals "_law_bad" = some (some (.ref a__law_bad)))
    (n__law_near : PySem.W.nsIn K mainGlobals "_law_near" = some (some (.ref a__law_near)))
    (n__law_lines : PySem.W.nsIn K mainGlobals "_law_lines" = some (some (.ref a__law_lines)))
    (n__law_outcome : PySem.W.nsIn K mainGlobals "_law_outcome" = some (some (.ref a__law_outcome)))
    (n_law : PySem.W.nsIn K mainGlobals "law" = some (some (.ref a_law)))
    (nc_TextError : PySem.W.nsIn K mainGlobals "TextError" = some (some (.ref C_TextError)))
    (nc_DeadbeatError : PySem.W.nsIn K mainGlobals "DeadbeatError" = some (some (.ref C_DeadbeatError)))
    (nc_CommandError : PySem.W.nsIn K mainGlobals "CommandError" = some (some (.ref C_CommandError)))
    (nc_RuleError : PySem.W.nsIn K mainGlobals "RuleError" = some (some (.ref C_RuleError)))
    (l_decimal : K.lookup a_decimal = some ⟨oc_decimal, od_decimal, .func (PySem.W.fnOf "decimal" "decimal" (defArgs s_decimal) (defBody s_decimal) (defScope s_decimal) .none kV_decimal dc_decimal pm_decimal an_decimal cd_decimal ct_decimal), sl_decimal⟩)
    (c_decimal : PySem.W.codeIn K cd_decimal "decimal" = true)
    (k_decimal : PySem.W.keepIn K (.ref a_decimal) = true)
    (l_decimal_number : K.lookup a_decimal_number = some ⟨oc_decimal_number, od_decimal_number, .func (PySem.W.fnOf "decimal_number" "decimal_number" (defArgs s_decimal_number) (defBody s_decimal_number) (defScope s_decimal_number) .none kV_decimal_number dc_decimal_number pm_decimal_number an_decimal_number cd_decimal_number ct_decimal_number), sl_decimal_number⟩)
    (c_decimal_number : PySem.W.codeIn K cd_decimal_number "decimal_number" = true)
    (k_decimal_number : PySem.W.keepIn K (.ref a_decimal_number) = true)
    (l__law_state : K.lookup a__law_state = some ⟨oc__law_state, od__law_state, .func (PySem.W.fnOf "_law_state" "_law_state" (defArgs s__law_state) (defBody s__law_state) (defScope s__law_state) .none kV__law_state dc__law_state pm__law_state an__law_state cd__law_state ct__law_state), sl__law_state⟩)
    (c__law_state : PySem.W.codeIn K cd__law_state "_law_state" = true)
    (k__law_state : PySem.W.keepIn K (.ref a__law_state) = true)
    (l__law_draw : K.lookup a__law_draw = some ⟨oc__law_draw, od__law_draw, .func (PySem.W.fnOf "_law_draw" "_law_draw" (defArgs s__law_draw) (defBody s__law_draw) (defScope s__law_draw) .none kV__law_draw dc__law_draw pm__law_draw an__law_draw cd__law_draw ct__law_draw), sl__law_draw⟩)
    (c__law_draw : PySem.W.codeIn K cd__law_draw "_law_draw" = true)
    (k__law_draw : PySem.W.keepIn K (.ref a__law_draw) = true)
    (l__in_run : K.lookup a__in_run = some ⟨oc__in_run, od__in_run, .func (PySem.W.fnOf "_in_run" "_in_run" (defArgs s__in_run) (defBody s__in_run) (defScope s__in_run) .none kV__in_run dc__in_run pm__in_run an__in_run cd__in_run ct__in_run), sl__in_run⟩)
    (c__in_run : PySem.W.codeIn K cd__in_run "_in_run" = true)
    (k__in_run : PySem.W.keepIn K (.ref a__in_run) = true)
    (l__run : K.lookup a__run = some ⟨oc__run, od__run, .func (PySem.W.fnOf "_run" "_run" (defArgs s__run) (defBody s__run) (defScope s__run) .none kV__run dc__run pm__run an__run cd__run ct__run), sl__run⟩)
    (c__run : PySem.W.codeIn K cd__run "_run" = true)
    (k__run : PySem.W.keepIn K (.ref a__run) = true)
    (l__comment_end : K.lookup a__comment_end = some ⟨oc__comment_end, od__comment_end, .func (PySem.W.fnOf "_comment_end" "_comment_end" (defArgs s__comment_end) (defBody s__comment_end) (defScope s__comment_end) .none kV__comment_end dc__comment_end pm__comment_end an__comment_end cd__comment_end ct__comment_end), sl__comment_end⟩)
    (c__comment_end : PySem.W.codeIn K cd__comment_end "_comment_end" = true)
    (k__comment_end : PySem.W.keepIn K (.ref a__comment_end) = true)
    (l__longest_sign : K.lookup a__longest_sign = some ⟨oc__longest_sign, od__longest_sign, .func (PySem.W.fnOf "_longest_sign" "_longest_sign" (defArgs s__longest_sign) (defBody s__longest_sign) (defScope s__longest_sign) .none kV__longest_sign dc__longest_sign pm__longest_sign an__longest_sign cd__longest_sign ct__longest_sign), sl__longest_sign⟩)
    (c__longest_sign : PySem.W.codeIn K cd__longest_sign "_longest_sign" = true)
    (k__longest_sign : PySem.W.keepIn K (.ref a__longest_sign) = true)
    (l__consists_of : K.lookup a__consists_of = some ⟨oc__consists_of, od__consists_of, .func (PySem.W.fnOf "_consists_of" "_consists_of" (defArgs s__consists_of) (defBody s__consists_of) (defScope s__consists_of) .none kV__consists_of dc__consists_of pm__consists_of an__consists_of cd__consists_of ct__consists_of), sl__consists_of⟩)
    (c__consists_of : PySem.W.codeIn K cd__consists_of "_consists_of" = true)
    (k__consists_of : PySem.W.keepIn K (.ref a__consists_of) = true)
    (l__hex_number : K.lookup a__hex_number = some ⟨oc__hex_number, od__hex_number, .func (PySem.W.fnOf "_hex_number" "_hex_number" (defArgs s__hex_number) (defBody s__hex_number) (defScope s__hex_number) .none kV__hex_number dc__hex_number pm__hex_number an__hex_number cd__hex_number ct__hex_number), sl__hex_number⟩)
    (c__hex_number : PySem.W.codeIn K cd__hex_number "_hex_number" = true)
    (k__hex_number : PySem.W.keepIn K (.ref a__hex_number) = true)
    (l__number : K.lookup a__number = some ⟨oc__number, od__number, .func (PySem.W.fnOf "_number" "_number" (defArgs s__number) (defBody s__number) (defScope s__number) .none kV__number dc__number pm__number an__number cd__number ct__number), sl__number⟩)
    (c__number : PySem.W.codeIn K cd__number "_number" = true)
    (k__number : PySem.W.keepIn K (.ref a__number) = true)
    (l_is_reserved : K.lookup a_is_reserved = some ⟨oc_is_reserved, od_is_reserved, .func (PySem.W.fnOf "is_reserved" "is_reserved" (defArgs s_is_reserved) (defBody s_is_reserved) (defScope s_is_reserved) .none kV_is_reserved dc_is_reserved pm_is_reserved an_is_reserved cd_is_reserved ct_is_reserved), sl_is_reserved⟩)
    (c_is_reserved : PySem.W.codeIn K cd_is_reserved "is_reserved" = true)
    (k_is_reserved : PySem.W.keepIn K (.ref a_is_reserved) = true)
    (l__run_token : K.lookup a__run_token = some ⟨oc__run_token, od__run_token, .func (PySem.W.fnOf "_run_token" "_run_token" (defArgs s__run_token) (defBody s__run_token) (defScope s__run_token) .none kV__run_token dc__run_token pm__run_token an__run_token cd__run_token ct__run_token), sl__run_token⟩)
    (c__run_token : PySem.W.codeIn K cd__run_token "_run_token" = true)
    (k__run_token : PySem.W.keepIn K (.ref a__run_token) = true)
    (l_tokenize : K.lookup a_tokenize = some ⟨oc_tokenize, od_tokenize, .func (PySem.W.fnOf "tokenize" "tokenize" (defArgs s_tokenize) (defBody s_tokenize) (defScope s_tokenize) .none kV_tokenize dc_tokenize pm_tokenize an_tokenize cd_tokenize ct_tokenize), sl_tokenize⟩)
    (c_tokenize : PySem.W.codeIn K cd_tokenize "tokenize" = true)
    (k_tokenize : PySem.W.keepIn K (.ref a_tokenize) = true)
    (l__law_good : K.lookup a__law_good = some ⟨oc__law_good, od__law_good, .func (PySem.W.fnOf "_law_good" "_law_good" (defArgs s__law_good) (defBody s__law_good) (defScope s__law_good) .none kV__law_good dc__law_good pm__law_good an__law_good cd__law_good ct__law_good), sl__law_good⟩)
    (c__law_good : PySem.W.codeIn K cd__law_good "_law_good" = true)
    (k__law_good : PySem.W.keepIn K (.ref a__law_good) = true)
    (l__law_digits : K.lookup a__law_digits = some ⟨oc__law_digits, od__law_digits, .func (PySem.W.fnOf "_law_digits" "_law_digits" (defArgs s__law_digits) (defBody s__law_digits) (defScope s__law_digits) .none kV__law_digits dc__law_digits pm__law_digits an__law_digits cd__law_digits ct__law_digits), sl__law_digits⟩)
    (c__law_digits : PySem.W.codeIn K cd__law_digits "_law_digits" = true)
    (k__law_digits : PySem.W.keepIn K (.ref a__law_digits) = true)
    (l__law_long : K.lookup a__law_long = some ⟨oc__law_long, od__law_long, .func (PySem.W.fnOf "_law_long" "_law_long" (defArgs s__law_long) (defBody s__law_long) (defScope s__law_long) .none kV__law_long dc__law_long pm__law_long an__law_long cd__law_long ct__law_long), sl__law_long⟩)
    (c__law_long : PySem.W.codeIn K cd__law_long "_law_long" = true)
    (k__law_long : PySem.W.keepIn K (.ref a__law_long) = true)
    (l__law_bad : K.lookup a__law_bad = some ⟨oc__law_bad, od__law_bad, .func (PySem.W.fnOf "_law_bad" "_law_bad" (defArgs s__law_bad) (defBody s__law_bad) (defScope s__law_bad) .none kV__law_bad dc__law_bad pm__law_bad an__law_bad cd__law_bad ct__law_bad), sl__law_bad⟩)
    (c__law_bad : PySem.W.codeIn K cd__law_bad "_law_bad" = true)
    (k__law_bad : PySem.W.keepIn K (.ref a__law_bad) = true)
    (l__law_near : K.lookup a__law_near = some ⟨oc__law_near, od__law_near, .func (PySem.W.fnOf "_law_near" "_law_near" (defArgs s__law_near) (defBody s__law_near) (defScope s__law_near) .none kV__law_near dc__law_near pm__law_near an__law_near cd__law_near ct__law_near), sl__law_near⟩)
    (c__law_near : PySem.W.codeIn K cd__law_near "_law_near" = true)
    (k__law_near : PySem.W.keepIn K (.ref a__law_near) = true)
    (l__law_lines : K.lookup a__law_lines = some ⟨oc__law_lines, od__law_lines, .func (PySem.W.fnOf "_law_lines" "_law_lines" (defArgs s__law_lines) (defBody s__law_lines) (defScope s__law_lines) .none kV__law_lines dc__law_lines pm__law_lines an__law_lines cd__law_lines ct__law_lines), sl__law_lines⟩)
    (c__law_lines : PySem.W.codeIn K cd__law_lines "_law_lines" = true)
    (k__law_lines : PySem.W.keepIn K (.ref a__law_lines) = true)
    (l__law_outcome : K.lookup a__law_outcome = some ⟨oc__law_outcome, od__law_outcome, .func (PySem.W.fnOf "_law_outcome" "_law_outcome" (defArgs s__law_outcome) (defBody s__law_outcome) (defScope s__law_outcome) .none kV__law_outcome dc__law_outcome pm__law_outcome an__law_outcome cd__law_outcome ct__law_outcome), sl__law_outcome⟩)
    (c__law_outcome : PySem.W.codeIn K cd__law_outcome "_law_outcome" = true)
    (k__law_outcome : PySem.W.keepIn K (.ref a__law_outcome) = true)
    (l_law : K.lookup a_law = some ⟨oc_law, od_law, .func (PySem.W.fnOf "law" "law" (defArgs s_law) (defBody s_law) (defScope s_law) .none kV_law dc_law pm_law an_law cd_law ct_law), sl_law⟩)
    (c_law : PySem.W.codeIn K cd_law "law" = true)
    (k_law : PySem.W.keepIn K (.ref a_law) = true)
    (zs_super : PySem.W.nsIn K mainGlobals "super" = some none)
    (zt_third : PySem.W.nsIn K PySem.cStatics "thirdparty.any" = some none)
    (zq_top : (List.lookup (PySem.Str.ofString "super") P.main.scope.names).isSome = false)
    (xl_TextError : K.lookup C_TextError = some (excClassObj nm_TextError q_TextError C_TextError N_TextError bs_TextError bm_TextError true sn_TextError sub_TextError ab_TextError col_TextError dd_TextError m0_TextError m1_TextError m2_TextError m3_TextError m5_TextError "ValueError.__new__"))
    (xb_TextError : PySem.HandSPX.refsVE bm_TextError = true)
    (xi_TextError : PySem.W.excInitIn K C_TextError PySem.HandSPX.veTail "ValueError.__new__" = true)
    (xs_TextError : PySem.W.ks_superIn K C_TextError C_TextError "__init__" = some (some (.builtin "ValueError.__init__")))
    (xv_TextError : PySem.W.subIn K (.ref C_TextError) (.type "ValueError") = some true)
    (xm_TextError : PySem.W.mroIn K C_TextError (.ref C_TextError) = some true)
    (xo_TextError : PySem.W.mroIn K C_TextError (.type "object") = some true)
    (xa_TextError : PySem.W.findIn K (.ref C_TextError) "__setattr__" = some (some (.builtin "object.__setattr__")))
    (xg_TextError : PySem.W.findIn K (.ref C_TextError) "__getattribute__" = some (some (.builtin "BaseException.__getattribute__")))
    (xh_TextError : PySem.W.findIn K (.ref C_TextError) "__getattr__" = some none)
    (xn_TextError : PySem.W.findIn K (.ref C_TextError) "line" = some none)
    (xc_TextError : PySem.W.findIn K (.ref C_TextError) "__class__" = some (some (.builtin "object.__class__")))
    (xf_TextError : PySem.W.findIn K (.ref C_TextError) "__init__" = some (some (.ref f_TextError)))
    (xt_TextError : PySem.W.typeIn K (.ref f_TextError) = some (.type "function"))
    (xk_TextError : PySem.W.keepIn K (.ref C_TextError) = true)
    (xe_TextError : PySem.W.subIn K (.ref C_TextError) (.type "BaseException") = some true)
    (xy_TextError : PySem.W.typeIn K (.ref C_TextError) = some (.type "type"))
    (xd_TextError : PySem.W.hasDictIn K C_TextError = true)
    (xu_TextError : PySem.W.isClsIn K C_TextError = true)
    (xw_TextError : PySem.W.subIn K (.ref C_TextError) (.ref C_TextError) = some true)
    (xp_TextError : PySem.W.specialIn K (.builtin "object.__class__") "__get__" = some (some (.builtin "getset_descriptor.__get__")))
    (xq_TextError : PySem.W.takesIn K (.builtin "object.__class__") = some true)
    (l_TextError : K.lookup f_TextError = some ⟨oc_TextError, od_TextError, .func (PySem.W.ksFn "__init__" "TextError.__init__" (PySem.Errs.eA "line" ⟨20, 17, 20, 21⟩ ⟨20, 23, 20, 27⟩) (PySem.Errs.eB "line" parts_TextError ⟨21, 25, 21, 60⟩ ⟨21, 8, 21, 13⟩ ⟨21, 8, 21, 15⟩ ⟨21, 8, 21, 24⟩ ⟨21, 8, 21, 61⟩ ⟨21, 8, 21, 61⟩ ⟨22, 8, 22, 12⟩ ⟨22, 8, 22, 17⟩ ⟨22, 20, 22, 24⟩ ⟨22, 8, 22, 24⟩) (PySem.Errs.eS "line" [("decimal", .globalImplicit)]) .none .none dc_TextError pm_TextError an_TextError (.ref cda_TextError) ct_TextError cc_TextError), osl_TextError⟩)
    (d_TextError : K.lookup cda_TextError = some ⟨ccl_TextError, cdd_TextError, .fields vs_TextError, ccs_TextError⟩)
    (e_TextError : vs_TextError[1]? = some (.str "TextError.__init__" tq_TextError))
    (g_TextError : vs_TextError[2]? = some (.str file_TextError tf_TextError))
    (h_TextError : (P.main.file == file_TextError) = true)
    (i_TextError : K.lookup cc_TextError = some ⟨cl_TextError, cld_TextError, .cell (some (.ref C_TextError)), csl_TextError⟩)
    (kt_TextError_DeadbeatError : PySem.W.kitOne K (.ref C_TextError) (.ref C_DeadbeatError) = some true)
    (kt_TextError_RuleError : PySem.W.kitOne K (.ref C_TextError) (.ref C_RuleError) = some false)
    (kt_TextError_CommandError : PySem.W.kitOne K (.ref C_TextError) (.ref C_CommandError) = some false)
    (kt_TextError_ValueError : PySem.W.kitOne K (.ref C_TextError) (.type "ValueError") = some true)
    (z_str : PySem.W.nsIn K mainGlobals "str" = some none)
    (z_divmod : PySem.W.nsIn K mainGlobals "divmod" = some none)
    (z_abs : PySem.W.nsIn K mainGlobals "abs" = some none)
    (z_int : PySem.W.nsIn K mainGlobals "int" = some none)
    (z_len : PySem.W.nsIn K mainGlobals "len" = some none)
    (z_all : PySem.W.nsIn K mainGlobals "all" = some none)
    (z_range : PySem.W.nsIn K mainGlobals "range" = some none)
    (z_list : PySem.W.nsIn K mainGlobals "list" = some none)
    (z_isinstance : PySem.W.nsIn K mainGlobals "isinstance" = some none)
    (z_bool : PySem.W.nsIn K mainGlobals "bool" = some none)
    (z_ValueError : PySem.W.nsIn K mainGlobals "ValueError" = some none)
    (v_PIECE : PySem.W.nsIn K mainGlobals "PIECE" = some (some (.int 1000000000000000000 t_PIECE)))
    (v_PIECE_DIGITS : PySem.W.nsIn K mainGlobals "PIECE_DIGITS" = some (some (.int 18 t_PIECE_DIGITS)))
    (v_GREATEST_WORD : PySem.W.nsIn K mainGlobals "GREATEST_WORD" = some (some (.int 4294967295 t_GREATEST_WORD)))
    (v_DIGITS : PySem.W.nsIn K mainGlobals "DIGITS" = some (some (.str "0123456789" t_DIGITS)))
    (v_LONGEST_DECIMAL : PySem.W.nsIn K mainGlobals "LONGEST_DECIMAL" = some (some (.int 10 t_LONGEST_DECIMAL)))
    (v_LETTERS : PySem.W.nsIn K mainGlobals "LETTERS" = some (some (.str "abcdefghijklmnopqrstuvwxyzABCDEFGHIJKLMNOPQRSTUVWXYZ" t_LETTERS)))
    (v_SIGNS : PySem.W.nsIn K mainGlobals "SIGNS" = some (some (.ref p_SIGNS)))
    (w_SIGNS : K.lookup p_SIGNS = some ⟨.type "tuple", none, .seq us_SIGNS n_SIGNS, sl_SIGNS⟩)
    (y_SIGNS : Vals [.str "~<=", .str ":=", .str "<<", .str ">>", .str "<=", .str "~<", .str "==", .str "!=", .str ",", .str ";", .str ".", .str "(", .str ")", .str "[", .str "]", .str "+", .str "-", .str "*", .str "/", .str "&", .str "|", .str "^", .str "~", .str "!", .str "<"] us_SIGNS.toList)
    (v_HEX_DIGITS : PySem.W.nsIn K mainGlobals "HEX_DIGITS" = some (some (.str "0123456789abcdef" t_HEX_DIGITS)))
    (v_LONGEST_HEX : PySem.W.nsIn K mainGlobals "LONGEST_HEX" = some (some (.int 8 t_LONGEST_HEX)))
    (v_RESERVED : PySem.W.nsIn K mainGlobals "RESERVED" = some (some (.ref p_RESERVED)))
    (w_RESERVED : K.lookup p_RESERVED = some ⟨.type "tuple", none, .seq us_RESERVED n_RESERVED, sl_RESERVED⟩)
    (y_RESERVED : Vals [.str "system", .str "in", .str "out", .str "object", .str "cell", .str "operation", .str "give", .str "end", .str "task", .str "every", .str "within", .str "if", .str "else", .str "loop", .str "to", .str "while", .str "read", .str "write", .str "interrupt", .str "calls", .str "mod", .str "and", .str "or"] us_RESERVED.toList)
    (v_LONGEST_NAME : PySem.W.nsIn K mainGlobals "LONGEST_NAME" = some (some (.int 16 t_LONGEST_NAME))) :
    Top P K mg :=
  { a_decimal := a_decimal,
    d_decimal := _,
    F_decimal := fun_mk (st := s_decimal) l_decimal c_decimal k_decimal,
    g_decimal := PySem.W.mg_of X G n_decimal,
    b_decimal := (fun_mk (st := s_decimal) l_decimal c_decimal k_decimal).binds (ps := ["n"]) fun _ _ _ _ _ _ us hl => match us, hl with | [_], _ => rfl,
    a_decimal_number := a_decimal_number,
    d_decimal_number := _,
    F_decimal_number := fun_mk (st := s_decimal_number) l_decimal_number c_decimal_number k_decimal_number,
    g_decimal_number := PySem.W.mg_of X G n_decimal_number,
    b_decimal_number := (fun_mk (st := s_decimal_number) l_decimal_number c_decimal_number k_decimal_number).binds (ps := ["run"]) fun _ _ _ _ _ _ us hl => match us, hl with | [_], _ => rfl,
    a__law_state := a__law_state,
    d__law_state := _,
    F__law_state := fun_mk (st := s__law_state) l__law_state c__law_state k__law_state,
    g__law_state := PySem.W.mg_of X G n__law_state,
    b__law_state := (fun_mk (st := s__law_state) l__law_state c__law_state k__law_state).binds (ps := ["script"]) fun _ _ _ _ _ _ us hl => match us, hl with | [_], _ => rfl,
    a__law_draw := a__law_draw,
    d__law_draw := _,
    F__law_draw := fun_mk (st := s__law_draw) l__law_draw c__law_draw k__law_draw,
    g__law_draw := PySem.W.mg_of X G n__law_draw,
    b__law_draw := (fun_mk (st := s__law_draw) l__law_draw c__law_draw k__law_draw).binds (ps := ["state", "many"]) fun _ _ _ _ _ _ us hl => match us, hl with | [_, _], _ => rfl,
    a__in_run := a__in_run,
    d__in_run := _,
    F__in_run := fun_mk (st := s__in_run) l__in_run c__in_run k__in_run,
    g__in_run := PySem.W.mg_of X G n__in_run,
    b__in_run := (fun_mk (st := s__in_run) l__in_run c__in_run k__in_run).binds (ps := ["character"]) fun _ _ _ _ _ _ us hl => match us, hl with | [_], _ => rfl,
    a__run := a__run,
    d__run := _,
    F__run := fun_mk (st := s__run) l__run c__run k__run,
    g__run := PySem.W.mg_of X G n__run,
    b__run := (fun_mk (st := s__run) l__run c__run k__run).binds (ps := ["text", "at"]) fun _ _ _ _ _ _ us hl => match us, hl with | [_, _], _ => rfl,
    a__comment_end := a__comment_end,
    d__comment_end := _,
    F__comment_end := fun_mk (st := s__comment_end) l__comment_end c__comment_end k__comment_end,
    g__comment_end := PySem.W.mg_of X G n__comment_end,
    b__comment_end := (fun_mk (st := s__comment_end) l__comment_end c__comment_end k__comment_end).binds (ps := ["text", "at"]) fun _ _ _ _ _ _ us hl => match us, hl with | [_, _], _ => rfl,
    a__longest_sign := a__longest_sign,
    d__longest_sign := _,
    F__longest_sign := fun_mk (st := s__longest_sign) l__longest_sign c__longest_sign k__longest_sign,
    g__longest_sign := PySem.W.mg_of X G n__longest_sign,
    b__longest_sign := (fun_mk (st := s__longest_sign) l__longest_sign c__longest_sign k__longest_sign).binds (ps := ["text", "at"]) fun _ _ _ _ _ _ us hl => match us, hl with | [_, _], _ => rfl,
    a__consists_of := a__consists_of,
    d__consists_of := _,
    F__consists_of := fun_mk (st := s__consists_of) l__consists_of c__consists_of k__consists_of,
    g__consists_of := PySem.W.mg_of X G n__consists_of,
    b__consists_of := (fun_mk (st := s__consists_of) l__consists_of c__consists_of k__consists_of).binds (ps := ["run", "allowed"]) fun _ _ _ _ _ _ us hl => match us, hl with | [_, _], _ => rfl,
    a__hex_number := a__hex_number,
    d__hex_number := _,
    F__hex_number := fun_mk (st := s__hex_number) l__hex_number c__hex_number k__hex_number,
    g__hex_number := PySem.W.mg_of X G n__hex_number,
    b__hex_number := (fun_mk (st := s__hex_number) l__hex_number c__hex_number k__hex_number).binds (ps := ["digits"]) fun _ _ _ _ _ _ us hl => match us, hl with | [_], _ => rfl,
    a__number := a__number,
    d__number := _,
    F__number := fun_mk (st := s__number) l__number c__number k__number,
    g__number := PySem.W.mg_of X G n__number,
    b__number := (fun_mk (st := s__number) l__number c__number k__number).binds (ps := ["run"]) fun _ _ _ _ _ _ us hl => match us, hl with | [_], _ => rfl,
    a_is_reserved := a_is_reserved,
    d_is_reserved := _,
    F_is_reserved := fun_mk (st := s_is_reserved) l_is_reserved c_is_reserved k_is_reserved,
    g_is_reserved := PySem.W.mg_of X G n_is_reserved,
    b_is_reserved := (fun_mk (st := s_is_reserved) l_is_reserved c_is_reserved k_is_reserved).binds (ps := ["name"]) fun _ _ _ _ _ _ us hl => match us, hl with | [_], _ => rfl,
    a__run_token := a__run_token,
    d__run_token := _,
    F__run_token := fun_mk (st := s__run_token) l__run_token c__run_token k__run_token,
    g__run_token := PySem.W.mg_of X G n__run_token,
    b__run_token := (fun_mk (st := s__run_token) l__run_token c__run_token k__run_token).binds (ps := ["run", "line"]) fun _ _ _ _ _ _ us hl => match us, hl with | [_, _], _ => rfl,
    a_tokenize := a_tokenize,
    d_tokenize := _,
    F_tokenize := fun_mk (st := s_tokenize) l_tokenize c_tokenize k_tokenize,
    g_tokenize := PySem.W.mg_of X G n_tokenize,
    b_tokenize := (fun_mk (st := s_tokenize) l_tokenize c_tokenize k_tokenize).binds (ps := ["text"]) fun _ _ _ _ _ _ us hl => match us, hl with | [_], _ => rfl,
    a__law_good := a__law_good,
    d__law_good := _,
    F__law_good := fun_mk (st := s__law_good) l__law_good c__law_good k__law_good,
    g__law_good := PySem.W.mg_of X G n__law_good,
    b__law_good := (fun_mk (st := s__law_good) l__law_good c__law_good k__law_good).binds (ps := ["state"]) fun _ _ _ _ _ _ us hl => match us, hl with | [_], _ => rfl,
    a__law_digits := a__law_digits,
    d__law_digits := _,
    F__law_digits := fun_mk (st := s__law_digits) l__law_digits c__law_digits k__law_digits,
    g__law_digits := PySem.W.mg_of X G n__law_digits,
    b__law_digits := (fun_mk (st := s__law_digits) l__law_digits c__law_digits k__law_digits).binds (ps := ["state", "many"]) fun _ _ _ _ _ _ us hl => match us, hl with | [_, _], _ => rfl,
    a__law_long := a__law_long,
    d__law_long := _,
    F__law_long := fun_mk (st := s__law_long) l__law_long c__law_long k__law_long,
    g__law_long := PySem.W.mg_of X G n__law_long,
    b__law_long := (fun_mk (st := s__law_long) l__law_long c__law_long k__law_long).binds (ps := ["state"]) fun _ _ _ _ _ _ us hl => match us, hl with | [_], _ => rfl,
    a__law_bad := a__law_bad,
    d__law_bad := _,
    F__law_bad := fun_mk (st := s__law_bad) l__law_bad c__law_bad k__law_bad,
    g__law_bad := PySem.W.mg_of X G n__law_bad,
    b__law_bad := (fun_mk (st := s__law_bad) l__law_bad c__law_bad k__law_bad).binds (ps := ["state"]) fun _ _ _ _ _ _ us hl => match us, hl with | [_], _ => rfl,
    a__law_near := a__law_near,
    d__law_near := _,
    F__law_near := fun_mk (st := s__law_near) l__law_near c__law_near k__law_near,
    g__law_near := PySem.W.mg_of X G n__law_near,
    b__law_near := (fun_mk (st := s__law_near) l__law_near c__law_near k__law_near).binds (ps := ["state"]) fun _ _ _ _ _ _ us hl => match us, hl with | [_], _ => rfl,
    a__law_lines := a__law_lines,
    d__law_lines := _,
    F__law_lines := fun_mk (st := s__law_lines) l__law_lines c__law_lines k__law_lines,
    g__law_lines := PySem.W.mg_of X G n__law_lines,
    b__law_lines := (fun_mk (st := s__law_lines) l__law_lines c__law_lines k__law_lines).binds (ps := ["state"]) fun _ _ _ _ _ _ us hl => match us, hl with | [_], _ => rfl,
    a__law_outcome := a__law_outcome,
    d__law_outcome := _,
    F__law_outcome := fun_mk (st := s__law_outcome) l__law_outcome c__law_outcome k__law_outcome,
    g__law_outcome := PySem.W.mg_of X G n__law_outcome,
    b__law_outcome := (fun_mk (st := s__law_outcome) l__law_outcome c__law_outcome k__law_outcome).binds (ps := ["text"]) fun _ _ _ _ _ _ us hl => match us, hl with | [_], _ => rfl,
    a_law := a_law,
    d_law := _,
    F_law := fun_mk (st := s_law) l_law c_law k_law,
    g_law := PySem.W.mg_of X G n_law,
    b_law := (fun_mk (st := s_law) l_law c_law k_law).binds (ps := ["script"]) fun _ _ _ _ _ _ us hl => match us, hl with | [_], _ => rfl,
    C_TextError := C_TextError,
    gc_TextError := PySem.W.mg_of X G nc_TextError,
    C_DeadbeatError := C_DeadbeatError,
    gc_DeadbeatError := PySem.W.mg_of X G nc_DeadbeatError,
    C_CommandError := C_CommandError,
    gc_CommandError := PySem.W.mg_of X G nc_CommandError,
    C_RuleError := C_RuleError,
    gc_RuleError := PySem.W.mg_of X G nc_RuleError,
    f_TextError := f_TextError,
    x_TextError := { gC := PySem.W.mg_of X G nc_TextError, noSuper := PySem.W.mg_none_of X G zs_super, noTop := zq_top, cls := ⟨_, _, _, _, _, _, _, _, _, _, _, _, _, _, _, xl_TextError, xb_TextError⟩, ini := xi_TextError, sup := xs_TextError, subV := xv_TextError, mroS := xm_TextError, third := zt_third, sa := xa_TextError, ga := xg_TextError, gg := xh_TextError, noN := xn_TextError, iC := xf_TextError, tC := xt_TextError, kC := xk_TextError, exC := xe_TextError, tyC := xy_TextError, hdC := xd_TextError, te := exm_own xe_TextError xu_TextError xy_TextError xw_TextError, fn := ⟨_, _, _, _, _, _, _, _, _, _, _, _, _, _, _, _, _, _, _, _, _, _, _, _, _, _, _, _, _, _, _, fun _ => ⟨_, rfl⟩, l_TextError, d_TextError, e_TextError, g_TextError, h_TextError, i_TextError⟩ },
    xd_TextError := ⟨xu_TextError, xg_TextError, xh_TextError, xe_TextError, xc_TextError, xp_TextError, xq_TextError, xo_TextError⟩,
    xf_TextError := ⟨xg_TextError, xh_TextError, xe_TextError, xd_TextError⟩,
    kt_TextError_DeadbeatError := kt_TextError_DeadbeatError,
    kt_TextError_RuleError := kt_TextError_RuleError,
    kt_TextError_CommandError := kt_TextError_CommandError,
    kt_TextError_ValueError := kt_TextError_ValueError,
    m_str := PySem.W.mg_none_of X G z_str,
    m_divmod := PySem.W.mg_none_of X G z_divmod,
    m_abs := PySem.W.mg_none_of X G z_abs,
    m_int := PySem.W.mg_none_of X G z_int,
    m_len := PySem.W.mg_none_of X G z_len,
    m_all := PySem.W.mg_none_of X G z_all,
    m_range := PySem.W.mg_none_of X G z_range,
    m_list := PySem.W.mg_none_of X G z_list,
    m_isinstance := PySem.W.mg_none_of X G z_isinstance,
    m_bool := PySem.W.mg_none_of X G z_bool,
    m_ValueError := PySem.W.mg_none_of X G z_ValueError,
    t_PIECE := t_PIECE,
    c_PIECE := PySem.W.mg_of X G v_PIECE,
    t_PIECE_DIGITS := t_PIECE_DIGITS,
    c_PIECE_DIGITS := PySem.W.mg_of X G v_PIECE_DIGITS,
    t_GREATEST_WORD := t_GREATEST_WORD,
    c_GREATEST_WORD := PySem.W.mg_of X G v_GREATEST_WORD,
    t_DIGITS := t_DIGITS,
    c_DIGITS := PySem.W.mg_of X G v_DIGITS,
    t_LONGEST_DECIMAL := t_LONGEST_DECIMAL,
    c_LONGEST_DECIMAL := PySem.W.mg_of X G v_LONGEST_DECIMAL,
    t_LETTERS := t_LETTERS,
    c_LETTERS := PySem.W.mg_of X G v_LETTERS,
    p_SIGNS := p_SIGNS,
    c_SIGNS := PySem.W.mg_of X G v_SIGNS,
    l_SIGNS := ⟨_, w_SIGNS, rfl, rfl⟩,
    q_SIGNS := fun H => sqT_lit w_SIGNS y_SIGNS,
    t_HEX_DIGITS := t_HEX_DIGITS,
    c_HEX_DIGITS := PySem.W.mg_of X G v_HEX_DIGITS,
    t_LONGEST_HEX := t_LONGEST_HEX,
    c_LONGEST_HEX := PySem.W.mg_of X G v_LONGEST_HEX,
    p_RESERVED := p_RESERVED,
    c_RESERVED := PySem.W.mg_of X G v_RESERVED,
    l_RESERVED := ⟨_, w_RESERVED, rfl, rfl⟩,
    q_RESERVED := fun H => sqT_lit w_RESERVED y_RESERVED,
    t_LONGEST_NAME := t_LONGEST_NAME,
    c_LONGEST_NAME := PySem.W.mg_of X G v_LONGEST_NAME }
theorem all_mk {l : PySem.W.OpenLaw} {w : World} {K : PySem.W.Frag} {mg : Str → Option Value} {fa : Addr} (T : Top l.prog K mg) (hfa : mg "law" = some (.ref fa)) :
    ∃ fd : FuncData, (∀ (s : Shared) (v : Value), BindsTo s fd ⟨[v], []⟩ [("script", v)]) ∧ ∀ base : Heap, K.In base → base.Ns mainGlobals mg → FnOk l.prog w K mg base CX0 7 fa fd ["script"] (sp_law K) := by
  have e := hfa.symm.trans T.g_law
  cases e
  refine ⟨T.d_law, fun s v => ?_, fun base _ _ => ok_law T⟩
  obtain ⟨oc, od, kV, doc, pm, an, cdv, ct, osl, e, lk, hcd⟩ := T.F_law.ex
  rw [e]
  exact .of_eq rfl
end Mine
open PySem PySem.W PyProof.Rows
set_option maxHeartbeats 0 in
theorem PySem.Challenge.cw_deadbeat_k04_errors_of_tokens_holds : PySem.Challenge.rw_deadbeat_k04_errors_of_tokens.Holds := by
  w_on; o_law; k_head; (case hw => w_witness2)
  k_fill
  refine L2.walk_of (l := PySem.Challenge.rw_deadbeat_k04_errors_of_tokens) (n := 63) (k := 7) (x := "script") (CX := fun _ => L2.CX0) (sp := fun w => Mine.sp_law _) rfl (by decide) rfl ⟨rfl, by decide, by decide⟩ (fun w h Y => PySem.W.kIn_of Y) ?F (fun _ _ a ns hl _ hS => ⟨a, ns, rfl, hS, hl, fun _ => rfl⟩) (fun _ _ _ _ _ h => h)
  case F =>
    intro w mg fa h KX G hmg
    refine' Mine.all_mk (Mine.top_mk (P := PySem.Challenge.rw_deadbeat_k04_errors_of_tokens.prog) (w := w) KX G ?n_decimal ?n_decimal_number ?n__law_state ?n__law_draw ?n__in_run ?n__run ?n__comment_end ?n__longest_sign ?n__consists_of ?n__hex_number ?n__number ?n_is_reserved ?n__run_token ?n_tokenize ?n__law_good ?n__law_digits ?n__law_long ?n__law_bad ?n__law_near ?n__law_lines ?n__law_outcome ?n_law ?nc_TextError ?nc_DeadbeatError ?nc_CommandError ?nc_RuleError ?l_decimal ?c_decimal ?k_decimal ?l_decimal_number ?c_decimal_number ?k_decimal_number ?l__law_state ?c__law_state ?k__law_state ?l__law_draw ?c__law_draw ?k__law_draw ?l__in_run ?c__in_run ?k__in_run ?l__run ?c__run ?k__run ?l__comment_end ?c__comment_end ?k__comment_end ?l__longest_sign ?c__longest_sign ?k__longest_sign ?l__consists_of ?c__consists_of ?k__consists_of ?l__hex_number ?c__hex_number ?k__hex_number ?l__number ?c__number ?k__number ?l_is_reserved ?c_is_reserved ?k_is_reserved ?l__run_token ?c__run_token ?k__run_token ?l_tokenize ?c_tokenize ?k_tokenize ?l__law_good ?c__law_good ?k__law_good ?l__law_digits ?c__law_digits ?k__law_digits ?l__law_long ?c__law_long ?k__law_long ?l__law_bad ?c__law_bad ?k__law_bad ?l__law_near ?c__law_near ?k__law_near ?l__law_lines ?c__law_lines ?k__law_lines ?l__law_outcome ?c__law_outcome ?k__law_outcome ?l_law ?c_law ?k_law ?zs_super ?zt_third ?zq_top ?xl_TextError ?xb_TextError ?xi_TextError ?xs_TextError ?xv_TextError ?xm_TextError ?xo_TextError ?xa_TextError ?xg_TextError ?xh_TextError ?xn_TextError ?xc_TextError ?xf_TextError ?xt_TextError ?xk_TextError ?xe_TextError ?xy_TextError ?xd_TextError ?xu_TextError ?xw_TextError ?xp_TextError ?xq_TextError ?l_TextError ?d_TextError ?e_TextError ?g_TextError ?h_TextError ?i_TextError ?kt_TextError_DeadbeatError ?kt_TextError_RuleError ?kt_TextError_CommandError ?kt_TextError_ValueError ?z_str ?z_divmod ?z_abs ?z_int ?z_len ?z_all ?z_range ?z_list ?z_isinstance ?z_bool ?z_ValueError ?v_PIECE ?v_PIECE_DIGITS ?v_GREATEST_WORD ?v_DIGITS ?v_LONGEST_DECIMAL ?v_LETTERS ?v_SIGNS ?w_SIGNS ?y_SIGNS ?v_HEX_DIGITS ?v_LONGEST_HEX ?v_RESERVED ?w_RESERVED ?y_RESERVED ?v_LONGEST_NAME) hmg
    (case n_decimal => k_is); (case n_decimal_number => k_is); (case n__law_state => k_is); (case n__law_draw => k_is); (case n__in_run => k_is); (case n__run => k_is); (case n__comment_end => k_is); (case n__longest_sign => k_is); (case n__consists_of => k_is); (case n__hex_number => k_is); (case n__number => k_is); (case n_is_reserved => k_is); (case n__run_token => k_is); (case n_tokenize => k_is); (case n__law_good => k_is); (case n__law_digits => k_is); (case n__law_long => k_is); (case n__law_bad => k_is); (case n__law_near => k_is); (case n__law_lines => k_is); (case n__law_outcome => k_is); (case n_law => k_is); (case nc_TextError => k_is); (case nc_DeadbeatError => k_is); (case nc_CommandError => k_is); (case nc_RuleError => k_is); (case l_decimal => k_is); (case c_decimal => k_is); (case k_decimal => k_is); (case l_decimal_number => k_is); (case c_decimal_number => k_is); (case k_decimal_number => k_is); (case l__law_state => k_is); (case c__law_state => k_is); (case k__law_state => k_is); (case l__law_draw => k_is); (case c__law_draw => k_is); (case k__law_draw => k_is); (case l__in_run => k_is); (case c__in_run => k_is); (case k__in_run => k_is); (case l__run => k_is); (case c__run => k_is); (case k__run => k_is); (case l__comment_end => k_is); (case c__comment_end => k_is); (case k__comment_end => k_is); (case l__longest_sign => k_is); (case c__longest_sign => k_is); (case k__longest_sign => k_is); (case l__consists_of => k_is); (case c__consists_of => k_is); (case k__consists_of => k_is); (case l__hex_number => k_is); (case c__hex_number => k_is); (case k__hex_number => k_is); (case l__number => k_is); (case c__number => k_is); (case k__number => k_is); (case l_is_reserved => k_is); (case c_is_reserved => k_is); (case k_is_reserved => k_is); (case l__run_token => k_is); (case c__run_token => k_is); (case k__run_token => k_is); (case l_tokenize => k_is); (case c_tokenize => k_is); (case k_tokenize => k_is); (case l__law_good => k_is); (case c__law_good => k_is); (case k__law_good => k_is); (case l__law_digits => k_is); (case c__law_digits => k_is); (case k__law_digits => k_is); (case l__law_long => k_is); (case c__law_long => k_is); (case k__law_long => k_is); (case l__law_bad => k_is); (case c__law_bad => k_is); (case k__law_bad => k_is); (case l__law_near => k_is); (case c__law_near => k_is); (case k__law_near => k_is); (case l__law_lines => k_is); (case c__law_lines => k_is); (case k__law_lines => k_is); (case l__law_outcome => k_is); (case c__law_outcome => k_is); (case k__law_outcome => k_is); (case l_law => k_is); (case c_law => k_is); (case k_law => k_is); (case zs_super => k_is); (case zt_third => k_is); (case zq_top => first | rfl | k_is | kx_is | ks_is | decide +kernel | kernel_rfl | with_unfolding_all rfl); (case xl_TextError => k_is); (case xb_TextError => first | rfl | k_is | kx_is | ks_is | decide +kernel | kernel_rfl | with_unfolding_all rfl); (case xi_TextError => first | rfl | k_is | kx_is | ks_is | decide +kernel | kernel_rfl | with_unfolding_all rfl); (case xs_TextError => first | rfl | k_is | kx_is | ks_is | decide +kernel | kernel_rfl | with_unfolding_all rfl); (case xv_TextError => k_is); (case xm_TextError => k_is); (case xo_TextError => k_is); (case xa_TextError => k_is); (case xg_TextError => k_is); (case xh_TextError => k_is); (case xn_TextError => k_is); (case xc_TextError => k_is); (case xf_TextError => k_is); (case xt_TextError => k_is); (case xk_TextError => k_is); (case xe_TextError => k_is); (case xy_TextError => k_is); (case xd_TextError => k_is); (case xu_TextError => k_is); (case xw_TextError => k_is); (case xp_TextError => k_is); (case xq_TextError => k_is); (case l_TextError => k_is); (case d_TextError => k_is); (case e_TextError => first | rfl | k_is | kx_is | ks_is | decide +kernel | kernel_rfl | with_unfolding_all rfl); (case g_TextError => first | rfl | k_is | kx_is | ks_is | decide +kernel | kernel_rfl | with_unfolding_all rfl); (case h_TextError => first | rfl | k_is | kx_is | ks_is | decide +kernel | kernel_rfl | with_unfolding_all rfl); (case i_TextError => k_is); (case kt_TextError_DeadbeatError => first | rfl | k_is | kx_is | ks_is | decide +kernel | kernel_rfl | with_unfolding_all rfl); (case kt_TextError_RuleError => first | rfl | k_is | kx_is | ks_is | decide +kernel | kernel_rfl | with_unfolding_all rfl); (case kt_TextError_CommandError => first | rfl | k_is | kx_is | ks_is | decide +kernel | kernel_rfl | with_unfolding_all rfl); (case kt_TextError_ValueError => first | rfl | k_is | kx_is | ks_is | decide +kernel | kernel_rfl | with_unfolding_all rfl); (case z_str => k_is); (case z_divmod => k_is); (case z_abs => k_is); (case z_int => k_is); (case z_len => k_is); (case z_all => k_is); (case z_range => k_is); (case z_list => k_is); (case z_isinstance => k_is); (case z_bool => k_is); (case z_ValueError => k_is); (case v_PIECE => k_is); (case v_PIECE_DIGITS => k_is); (case v_GREATEST_WORD => k_is); (case v_DIGITS => k_is); (case v_LONGEST_DECIMAL => k_is); (case v_LETTERS => k_is); (case v_SIGNS => k_is); (case w_SIGNS => k_is); (case y_SIGNS => first | k_is | (repeat (first | exact .nil | refine .cons ⟨_, rfl⟩ ?_))); (case v_HEX_DIGITS => k_is); (case v_LONGEST_HEX => k_is); (case v_RESERVED => k_is); (case w_RESERVED => k_is); (case y_RESERVED => first | k_is | (repeat (first | exact .nil | refine .cons ⟨_, rfl⟩ ?_))); (case v_LONGEST_NAME => k_is)
