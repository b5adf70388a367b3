import PyProof.Rows.All
import Wide.All
import OpenK.AllK
import Wide.FinOn
import PyProof.RulesMatch
import HandS.Base
import HandS.Call
import HandS.Words
import HandS.IsInst
import HandS.ForExc
import HandS.Zip
import HandS.Walk
import HandS.Strs
import KE.KExcSuper
import KE.KSuperObj
import KE.KSuper
import HandS.ForMost
import HandS.ExcInit
import HandS.ExcSuper
import HandS.ExcField
import HandS.ExcIs
import KE.KExcIs
import KE.KIsAll
import HandS.RaiseMore
import PyProof.InstEq
import HandS.TupSets
import PyProof.EqKinds
import PyProof.NeKinds
import PySem.Challenge.RW_deadbeat_k20_contents_of_caches
import HandS.Wide
import HandS.WideBits
import HandS.Style
import HandS.EndBits
import HandS.StrMore
import HandS.IntHex
import HandS.ReSub
import HandS.Codes
import HandS.Evl
import HandS.More
import HandS.SetFor
import HandS.TupLe
set_option Elab.async false
set_option linter.all false
set_option maxRecDepth 100000
namespace L2
open PySem PySem.Spec PyProof.Rows
/-- the cases of a match over texts: a written text or whatever is left, and what is done -/
def tCases (z : Str) : List (Option Str × TS) → TS
  | [] => fun D σ H => D.nx σ H
  | (none, t) :: _ => t
  | (some c, t) :: r => fun D σ H => if z = c then t D σ H else tCases z r D σ H
def tMatch (te : TE) (l : List (Option Str × TS)) : TS := fun D σ H => te σ H fun x H1 => ∃ z : Str, x = .str z ∧ tCases z l D σ H1
inductive PCs (X : Cx) : List MatchCase → List (Option Str × TS) → Prop
  | nil : PCs X [] []
  | rest {body : List Stmt} {t : TS} {p : Pos} {r : List MatchCase} : PSs X body t → PCs X (⟨.MatchAs none none p, none, body⟩ :: r) [(none, t)]
  | text {body : List Stmt} {t : TS} {c : Str} {j : Nat} {p p2 : Pos} {r : List MatchCase} {l : List (Option Str × TS)} : PSs X body t → PCs X r l →
      PCs X (⟨.MatchValue (.Constant (.str c) j p) p2, none, body⟩ :: r) ((some c, t) :: l)
theorem run_cases {X : Cx} {z : Str} {u : Value} (ru : RelV (.str z) u) : ∀ {cs : List MatchCase} {l : List (Option Str × TS)}, PCs X cs l → ∀ (first : Bool) (pins : List (Addr × Obj)) (s : Shared) (σ : St) (H : Hp) (D : Ends), Inv X pins σ H s → tCases z l D σ H →
    wpAny (model X.prog X.w) X.A (matchCases cs X.env u first) (SP X pins D) X.xe s
  | _, _, .nil, first, pins, s, σ, H, D, I, h => wpAny_matchCases_nil ⟨σ, H, I, h⟩
  | _, _, .rest hb, first, pins, s, σ, H, D, I, h => by
    refine wpAny_matchCases_cons (wpAny_matchPattern_Capture ?_)
    exact wpAny_assignInOrder_none (hb.run pins s σ H D I h)
  | _, _, .text (c := c) (l := l) hb hr, first, pins, s, σ, H, D, I, h => by
    refine wpAny_matchCases_cons (wpAny_matchPattern_Value ?_)
    refine thn ((pe_str (X := X) (x := c)).run pins s σ H (fun v H' => v = .str c ∧ H' = H) I ⟨rfl, rfl⟩) fun v s1 hh => ?_
    obtain ⟨x, H1, I1, rx, ex, eH⟩ := hh
    subst ex
    subst eH
    refine thn (op_eq pins s1 σ H1 (.str z) (.str c) u v (fun y H' => y = .bl (decide (V.str z = V.str c)) ∧ H' = H1) I1 ru rx ⟨rfl, rfl, rfl⟩) fun y s2 hh => ?_
    obtain ⟨x, H2, I2, rx2, ex, eH⟩ := hh
    subst ex
    subst eH
    cases rx2
    refine wpAny_truthy_bool ?_
    have h' : (if z = c then _ else _) := h
    by_cases e : z = c
    · rw [if_pos e] at h'
      rw [decide_eq_true (by rw [e])]
      exact wpAny_assignInOrder_none (hb.run pins s2 σ H2 D I2 h')
    · rw [if_neg e] at h'
      rw [decide_eq_false (fun q => e (by injection q))]
      exact run_cases ru hr false pins s2 σ H2 D I2 h'
theorem ps_match {X : Cx} {e : Expr} {te : TE} {cs : List MatchCase} {l : List (Option Str × TS)} {pos : Pos} (he : PE X e te) (hc : PCs X cs l) : PS X (.Match e cs pos) (tMatch te l) := by
  refine ⟨fun pins s σ H D I h => wpAny_Match ?_⟩
  refine thn (he.run pins s σ H _ I h) fun u s1 hh => ?_
  obtain ⟨x, H1, I1, rx, z, ez, hz⟩ := hh
  subst ez
  exact run_cases rx hc true pins s1 σ H1 D I1 hz
/-- a module's constant: an int, a text, an object -/
theorem pe_gi {X : Cx} {x : Str} {n : Int} {t : Tok} {pos : Pos} (hg : Gl X x) (hm : X.mg x = some (.int n t)) (hd : (x == ("__debug__" : Str)) = false := by decide) : PE X (.Name x pos) (tC (.int n)) := pe_glob hg hm ⟨_, rfl⟩ hd
theorem pe_gs {X : Cx} {x : Str} {z : Str} {t : Tok} {pos : Pos} (hg : Gl X x) (hm : X.mg x = some (.str z t)) (hd : (x == ("__debug__" : Str)) = false := by decide) : PE X (.Name x pos) (tC (.str z)) := pe_glob hg hm ⟨_, rfl⟩ hd
theorem pe_gr {X : Cx} {x : Str} {a : Addr} {pos : Pos} (hg : Gl X x) (hm : X.mg x = some (.ref a)) (hd : (x == ("__debug__" : Str)) = false := by decide) : PE X (.Name x pos) (tC (.ref a)) := pe_glob (v := .ref a) hg hm rfl hd
/-- a built-in type as a value -/
theorem pe_ty {X : Cx} {x : Str} {T : String} {pos : Pos} (hg : Gl X x) (hm : X.mg x = none) (hv : bootBuiltins x = some (.type T)) (hn : x ≠ "__name__" := by decide) (hd : (x == ("__debug__" : Str)) = false := by decide) : PE X (.Name x pos) (tC (.ty T)) :=
  ⟨fun _ s _ H _ I h => ld_blt I hg hm hv ⟨.ty T, H, I, rfl, h⟩ hn hd⟩
/-- isinstance of a plain value and a built-in type -/
theorem isi_int {K : PySem.W.Frag} {H : Hp} {Q : VK} {i : Int} (q : Q (.bl true) H) : rIsi K [.int i, .ty "int"] H Q := ⟨_, _, _, _, true, rfl, .ty _, .base (.int _), kit_ty (by decide +kernel), q⟩
theorem isi_int_bool {K : PySem.W.Frag} {H : Hp} {Q : VK} {i : Int} (q : Q (.bl false) H) : rIsi K [.int i, .ty "bool"] H Q := ⟨_, _, _, _, false, rfl, .ty _, .base (.int _), kit_ty (by decide +kernel), q⟩
theorem Same.none {H H' : Hp} (e : Same H H') {p : Addr} (h : H' p = Option.none) : H p = Option.none := Same.free e h
theorem same_new {H : Hp} {p : Addr} {o : HO} (h : H p = Option.none) : Same H (upd H p o) := fun b x e => by
  rw [upd_ne (ne_of_none e h)]
  exact e
theorem or_test {t u : TT} {σ : St} {H : Hp} {a b : Bool} {Q : Bool → Hp → Prop} (h1 : ∀ Q' : Bool → Hp → Prop, Q' a H → t σ H Q') (h2 : a = false → ∀ Q' : Bool → Hp → Prop, Q' b H → u σ H Q') (q : Q (a || b) H) : tOr t u σ H Q := by
  refine h1 _ ?_
  cases a with
  | true => exact iteT q
  | false => exact iteF (h2 rfl _ q)
theorem and_test {t u : TT} {σ : St} {H : Hp} {a b : Bool} {Q : Bool → Hp → Prop} (h1 : ∀ Q' : Bool → Hp → Prop, Q' a H → t σ H Q') (h2 : a = true → ∀ Q' : Bool → Hp → Prop, Q' b H → u σ H Q') (q : Q (a && b) H) : tAnd t u σ H Q := by
  refine h1 _ ?_
  cases a with
  | true => exact iteT (h2 rfl _ q)
  | false => exact iteF q
theorem if_or {t u : TT} {a b : Bool} {A B : TS} {D : Ends} {σ : St} {H : Hp} (h1 : ∀ Q' : Bool → Hp → Prop, Q' a H → t σ H Q') (h2 : a = false → ∀ Q' : Bool → Hp → Prop, Q' b H → u σ H Q') (q : if (a || b) = true then A D σ H else B D σ H) : tIfS (tOr t u) A B D σ H := or_test h1 h2 q
theorem if_and {t u : TT} {a b : Bool} {A B : TS} {D : Ends} {σ : St} {H : Hp} (h1 : ∀ Q' : Bool → Hp → Prop, Q' a H → t σ H Q') (h2 : a = true → ∀ Q' : Bool → Hp → Prop, Q' b H → u σ H Q') (q : if (a && b) = true then A D σ H else B D σ H) : tIfS (tAnd t u) A B D σ H := and_test h1 h2 q
theorem Same.off {H H1 : Hp} {D : Addr} {x : HO} (k : Same H H1) (n : H D = Option.none) : Same H (upd H1 D x) := fun b y e => by
  rw [upd_ne (ne_of_none e n)]
  exact k b y e
theorem Same.seqT {K : PySem.W.Frag} {H H' : Hp} {a : Addr} {xs : List V} (e : Same H H') (h : SqT K H a xs) : SqT K H' a xs := by
  rcases h with h | h
  · rcases h with h | ⟨o, h⟩
    · exact .inl (.inl (e _ _ h))
    · exact .inl (.inr ⟨o, e _ _ h⟩)
  · exact .inr h
/-- a def that may raise, called where it does not -/
theorem pass_no {X : Cx} : Passes (L2.CX X.prog X.w) X (fun _ _ _ => False) := fun _ _ _ _ _ _ _ c => by
  obtain ⟨_, _, _, _, _, _, _, _, _, _, _, _, z⟩ := c
  exact z.elim
def rListOf (K : PySem.W.Frag) : List V → Hp → VK → Prop := fun xs H Q => ∃ p ys, xs = [V.ref p] ∧ (SqL K H p ys ∨ SqT K H p ys) ∧ ∀ l, H l = Option.none → Q (.ref l) (upd H l (.lst ys))
theorem if_t {b : Bool} {A B : Prop} (h : b = true) (q : A) : if b = true then A else B := by
  rw [if_pos h]
  exact q
theorem if_f {b : Bool} {A B : Prop} (h : b = false) (q : B) : if b = true then A else B := by
  rw [if_neg (by rw [h]; exact Bool.noConfusion)]
  exact q
/-- a tuple of the written part, as it stands there -/
theorem sqT_lit {K : PySem.W.Frag} {p : Addr} {dd : Option Addr} {us : Array Value} {n : Nat} {sl : Array (Option Value)} {xs : List V} {H : Hp} (w : K.lookup p = some ⟨.type "tuple", dd, .seq us n, sl⟩) (y : Vals xs us.toList) (hl : xs.length ≤ sizeLine := by decide) : SqT K H p xs :=
  .inr ⟨_, us, n, w, rfl, rfl, Nat.le_trans (Nat.le_of_eq (by rw [← Array.length_toList]; exact (Paired.length y).symm)) hl, y⟩
end L2

set_option Elab.async false
set_option linter.all false
set_option maxRecDepth 100000
set_option maxHeartbeats 4000000
/-! # An error of the program's own: its maker calls that of ValueError with a text, then keeps one value -/
namespace PySem
namespace Errs
open PySem.W PySem.Calls PyProof.Rows PySem.HandSPX
/-! ### the text of the maker -/
def eA (fld : Str) (p1 p2 : Pos) : Arguments :=
  { posonlyargs := [], args := [⟨"self", none, p1⟩, ⟨fld, none, p2⟩], vararg := none, kwonlyargs := [], kw_defaults := [], kwarg := none, defaults := [] }
def eB (fld : Str) (parts : List Expr) (mp : Pos) (q1 q2 q3 q4 q5 q6 q7 q8 q9 : Pos) : List Stmt :=
  [.Expr (.Call (.Attribute (.Call (.Name "super" q1) [] [] q2) "__init__" q3) [.JoinedStr parts mp] [] q4) q5,
   .Assign [.Attribute (.Name "self" q6) fld q7] (.Name fld q8) q9]
def eS (fld : Str) (ex : List (Str × NameKind)) : Scope :=
  { kind := .function, names := [(PySem.Str.ofString "self", .local), (fld, .local), (PySem.Str.ofString "__class__", .free), (PySem.Str.ofString "super", .globalImplicit)] ++ ex, isGenerator := false, isCoroutine := false, more := [] }
/-- all is kept but the slots of the frames at fs -/
structure KeepF (fs : List Addr) (h h' : Heap) : Prop where
  keep : ∀ b o, b ∉ fs → h.get? b = some o → h'.get? b = some o
  slot : ∀ b o, h.get? b = some o → ∃ sl, h'.get? b = some { o with slots := sl }
theorem KeepF.of {fs : List Addr} {h h' : Heap} (k : ∀ b o, h.get? b = some o → h'.get? b = some o) : KeepF fs h h' := ⟨fun b o _ e => k b o e, fun b o e => ⟨o.slots, k b o e⟩⟩
theorem KeepF.of_un {fs : List Addr} {h h' : Heap} {H' : L2.Hp} (u : L2.Un fs [] (fun _ => none) H' h h') : KeepF fs h h' :=
  ⟨fun b o n e => u.keep b o e rfl n (by simp), fun b o e => u.any e rfl (by simp)⟩
/-- the message comes to some text; what stood is kept -/
def MsgOk (P : Program) (w : World) (K : Frag) (mg : Str → Option Value) (base : Heap) (lv : Nat) (ex : List (Str × NameKind)) (parts : List Expr) (mp : Pos) (fld : Str) (v : Value) : Prop :=
  ∀ (A : Around) (outer : List Env) (E : Value → Shared → Prop) (s : Shared) (env : Env) (m : Str → Option Value) (Q : Value → Shared → Prop),
    env.scope = eS fld ex → env.globals = mainGlobals → env.builtins = builtinsNs → L2.Room lv A → L2.Env0 P w K mg base A outer s (fun _ => none) →
    s.heap.Ns env.locals m → m fld = some v → (∀ u s', s'.os = s.os → AllBare s'.gens → KeepF (L2.frs outer) s.heap s'.heap → Q u s') →
    wpAny (model P w) A (eval (.JoinedStr parts mp) env) Q E s
def SupEq (parts : List Expr) (mp q1 q2 q3 q4 : Pos) : Prop :=
  ∀ env : Env, ∃ pl : Sem Bool, eval (.Call (.Attribute (.Call (.Name "super" q1) [] [] q2) "__init__" q3) [.JoinedStr parts mp] [] q4) env = (do
    let ov ← attributeBase (.Call (.Name "super" q1) [] [] q2) "__init__" env (eval (.Call (.Name "super" q1) [] [] q2) env)
    standAt q3.atName
    let __x ← holding [ov] (getMethod ov "__init__" pl)
    match __x with
    | (f, first) => callWith q4 f first (backTo q4 (starEach [.JoinedStr parts mp] env)) [])
/-- what the written part says of the class at C and of its maker at fI -/
structure ErrTxt (P : Program) (K : Frag) (mg : Str → Option Value) (nm fld : Str) (ex : List (Str × NameKind)) (parts : List Expr) (mp : Pos) (C fI : Addr) : Prop where
  gC : mg nm = some (.ref C)
  noSuper : mg "super" = none
  noTop : (List.lookup (PySem.Str.ofString "super") P.main.scope.names).isSome = false
  cls : ∃ nm q N bs bm sn sub ab col dd k0 k1 k2 k3 k5, K.lookup C = some (excClassObj nm q C N bs bm true sn sub ab col dd k0 k1 k2 k3 k5 "ValueError.__new__") ∧ refsVE bm = true
  ini : excInitIn K C veTail "ValueError.__new__" = true
  sup : ks_superIn K C C "__init__" = some (some (.builtin "ValueError.__init__"))
  subV : subIn K (.ref C) (.type "ValueError") = some true
  mroS : mroIn K C (.ref C) = some true
  third : nsIn K cStatics "thirdparty.any" = some none
  sa : findIn K (.ref C) "__setattr__" = some (some (.builtin "object.__setattr__"))
  ga : findIn K (.ref C) "__getattribute__" = some (some (.builtin "BaseException.__getattribute__"))
  gg : findIn K (.ref C) "__getattr__" = some none
  noN : findIn K (.ref C) fld = some none
  iC : findIn K (.ref C) "__init__" = some (some (.ref fI))
  tC : typeIn K (.ref fI) = some (.type "function")
  kC : keepIn K (.ref C) = true
  exC : subIn K (.ref C) (.type "BaseException") = some true
  tyC : typeIn K (.ref C) = some (.type "type")
  hdC : hasDictIn K C = true
  te : exmOne K (.ref C) (.ref C) = some true
  fn : ∃ (oc : Value) (od : Option Addr) (doc pm : Value) (an : Option Addr) (ct : Value) (osl : Array (Option Value)) (qual : Str) (cda cc : Addr)
      (ccl : Value) (cdd : Option Addr) (ccs : Array (Option Value)) (vs : Array Value) (tq tf : Tok) (file : Str) (cl : Value) (cld : Option Addr) (csl : Array (Option Value))
      (p1 p2 q1 q2 q3 q4 q5 q6 q7 q8 q9 : Pos), SupEq parts mp q1 q2 q3 q4 ∧
    K.lookup fI = some ⟨oc, od, .func (ksFn "__init__" qual (eA fld p1 p2) (eB fld parts mp q1 q2 q3 q4 q5 q6 q7 q8 q9) (eS fld ex) .none .none doc pm an (.ref cda) ct cc), osl⟩ ∧
    K.lookup cda = some ⟨ccl, cdd, .fields vs, ccs⟩ ∧ vs[1]? = some (.str qual tq) ∧ vs[2]? = some (.str file tf) ∧ (P.main.file == file) = true ∧
    K.lookup cc = some ⟨cl, cld, .cell (some (.ref C)), csl⟩
/-- the heap without the object at x -/
def without (h : Heap) (x : Addr) : Heap := { h with objs := h.objs.setIfInBounds x { cls := .none, data := .freed } }
theorem without_size (h : Heap) (x : Addr) : (without h x).objs.size = h.objs.size := by simp [without]
theorem without_at (h : Heap) (x : Addr) : (without h x).get? x = none := by
  unfold without Heap.get?
  by_cases e : x < h.objs.size
  · simp [Array.getElem?_setIfInBounds, e]
  · simp [Array.getElem?_setIfInBounds, e]
theorem without_ne (h : Heap) (x b : Addr) (hb : b ≠ x) : (without h x).get? b = h.get? b := by
  unfold without Heap.get?
  simp [Array.getElem?_setIfInBounds, Ne.symm hb]
/-- the heap below L without the object at x -/
def cutH (h : Heap) (L x : Addr) : Heap := { h with objs := (h.objs.extract 0 L).setIfInBounds x { cls := .none, data := .freed } }
theorem cut_size (h : Heap) (L x : Addr) : (cutH h L x).objs.size ≤ L := by simp [cutH]; omega
theorem cut_at (h : Heap) (L x : Addr) : (cutH h L x).get? x = none := by
  unfold cutH Heap.get?
  by_cases e : x < (h.objs.extract 0 L).size
  · rw [Array.getElem?_setIfInBounds_self_of_lt e]
  · have z : ((h.objs.extract 0 L).setIfInBounds x { cls := .none, data := .freed })[x]? = none := by
      rw [Array.getElem?_eq_none_iff]; simp at e ⊢; omega
    rw [z]
theorem cut_big (h : Heap) (L x b : Addr) (hb : L ≤ b) : (cutH h L x).get? b = none := Heap.get?_none_of_le (Nat.le_trans (cut_size h L x) hb)
theorem cut_lt (h : Heap) (L x b : Nat) (hb : b < L) (hx : b ≠ x) : (cutH h L x).get? b = h.get? b := by
  unfold cutH Heap.get?
  show (match ((h.objs.extract 0 L).setIfInBounds x { cls := .none, data := .freed })[b]? with | some ⟨_, _, .freed, _⟩ => none | o => o) = _
  rw [Array.getElem?_setIfInBounds_ne (Ne.symm hx)]
  have z : (h.objs.extract 0 L)[b]? = h.objs[b]? := by
    rw [Array.getElem?_extract]
    by_cases q : b < h.objs.size
    · rw [if_pos (by omega)]; simp
    · rw [if_neg (by omega)]
      exact (Array.getElem?_eq_none_iff.mpr (by omega)).symm
  rw [z]
  rfl
/-- what the maker leaves of a fresh exception at x; fs: the callers' frames -/
structure InitEnd (fs : List Addr) (fld : Str) (h h' : Heap) (x C dx : Addr) (v : Value) : Prop where
  keep : ∀ b o, b ≠ x → b ∉ fs → h.get? b = some o → h'.get? b = some o
  slot : ∀ b o, b ≠ x → h.get? b = some o → ∃ sl, h'.get? b = some { o with slots := sl }
  obj : ∃ t1 : Addr, h'.get? x = some { cls := .ref C, dict := some dx, data := .fields #[.ref t1, .none, .none, .none, .bool false, .none] }
  dbig : h.objs.size ≤ dx
  dne : dx ≠ x
  ns : h'.Ns1 dx (fun y => if y = fld then some v else none)
/-- a made error -/
structure OwnMade (fs : List Addr) (fld : Str) (h h' : Heap) (e C d : Addr) (v : Value) : Prop where
  keep : KeepF fs h h'
  new : h.objs.size ≤ e
  obj : ∃ oe vs, h'.get? e = some oe ∧ oe.cls = .ref C ∧ oe.dict = some d ∧ oe.data = .fields vs ∧ vs[1]? = some .none
  dbig : h.objs.size ≤ d
  dne : d ≠ e
  ns : h'.Ns1 d (fun y => if y = fld then some v else none)
theorem ld1 {M : Model} {A : Around} {E : Value → Shared → Prop} {s : Shared} {env : Env} {m : Str → Option Value} {x : Str} {pos : Pos} {v : Value} {Q : Value → Shared → Prop}
    (hn : s.heap.Ns env.locals m) (hv : m x = some v) (h : Q v s) (hk : env.scope.kind = .function) (hl : env.kindOf x = some .local) (hd : (x == ("__debug__" : Str)) = false) :
    wpAny M A (eval (.Name x pos) env) Q E s := wpAny_Name (wpAny_loadName_local hk hl hn hv h) hd
/-- the facts of the field's name -/
structure FldOk (fld : Str) (ex : List (Str × NameKind)) (parts : List Expr) (mp : Pos) : Prop where
  lkF : List.lookup fld (eS fld ex).names = some .local
  lkS : List.lookup ("self" : Str) (eS fld ex).names = some .local
  lkC : List.lookup ("__class__" : Str) (eS fld ex).names = some .free
  lkU : List.lookup ("super" : Str) (eS fld ex).names = some .globalImplicit
  dbg : (fld == ("__debug__" : Str)) = false
  noc : ∀ y ∈ (eS fld ex).names, y.2 ≠ .cell
  bf : ∀ x v : Value, List.lookup fld [(("self" : Str), x), (fld, v)].reverse = some v
  bs : ∀ x v : Value, List.lookup ("self" : Str) [(("self" : Str), x), (fld, v)].reverse = some x
  star : ∀ env : Env, starEach [.JoinedStr parts mp] env = (false, eval (.JoinedStr parts mp) env) :: starEach [] env
  bnd : ∀ (s : Shared) (x v : Value) (q : Str) (p1 p2 : Pos) (b : List Stmt) (doc pm cd ct : Value) (an : Option Addr) (cc : Addr),
    BindsTo s (ksFn "__init__" q (eA fld p1 p2) b (eS fld ex) .none .none doc pm an cd ct cc) ⟨[x, v], []⟩ [(("self" : Str), x), (fld, v)]
theorem env0_none {P : Program} {w : World} {K : Frag} {mg : Str → Option Value} {base : Heap} {A : Around} {outer : List Env} {s : Shared} {H : L2.Hp} (e : L2.Env0 P w K mg base A outer s H) :
    L2.Env0 P w K mg base A outer s (fun _ => none) :=
  ⟨e.frames, e.mod, fun b o q => ⟨(e.bs b o q).1, rfl⟩, e.bsz, e.funs, fun _ _ => rfl, fun a o q => (by cases q), e.bare⟩
section
variable {prog : Program} {w : World} {A : Around} {R : Result → Shared → Prop} {s : Shared} {K : Frag} {mg : Str → Option Value} {base : Heap} {lv : Nat} {outer : List Env} {nm fld : Str} {ex : List (Str × NameKind)} {parts : List Expr} {mp : Pos} {C fI : Addr}
theorem err_init (T : ErrTxt prog K mg nm fld ex parts mp C fI) (G : FldOk fld ex parts mp) {x t0 : Addr} {v : Value} (M : MsgOk prog w K mg base lv ex parts mp fld v)
    (e0 : L2.Env0 prog w K mg base A outer s (fun _ => none)) (hx : s.heap.get? x = some (excO C t0)) (hnx : K.lookup x = none) (hbx : base.get? x = none) (hr : L2.Room (lv + 1) A)
    (hq : ∀ s' dx, s'.os = s.os → AllBare s'.gens → InitEnd (L2.frs outer) fld s.heap s'.heap x C dx v → R (.ok (.ret .none)) s') :
    codeAny (model prog w) A (.call (.ref fI) ⟨[.ref x, v], []⟩) R s := by
  have X : K.In s.heap := e0.mod.kin.keeps fun b o e => (e0.bs b o e).1
  have hlim : s.heap.NoLimit := e0.mod.nolimit.keeps fun b o e => (e0.bs b o e).1
  have hg : s.heap.Ns mainGlobals mg := e0.mod.glob.keeps fun b o e => (e0.bs b o e).1
  obtain ⟨mb, hb0, hmb0⟩ := e0.mod.blt
  have hb : s.heap.Ns builtinsNs mb := hb0.keeps fun b o e => (e0.bs b o e).1
  have hmb : mb "super" = some (.type "super") := hmb0 _ (by decide)
  obtain ⟨oc, od, doc, pm, an, ct, osl, qual, cda, cc, ccl, cdd, ccs, vs, tq, tf, file, cl, cld, csl, p1, p2, q1, q2, q3, q4, q5, q6, q7, q8, q9, hev, ho, hcd, hvq, hvf, hfile, hcell⟩ := T.fn
  obtain ⟨nm, q, N, bs, bm, sn, sub, ab, col, dd, k0, k1, k2, k3, k5, hC, hbm⟩ := T.cls
  have hcl : clsIn K C = some { name := nm, bases := bs, mro := .ref C :: bm, ns := N, qualname := q, hasDict := true, slotNames := sn, subclasses := sub, abstract := ab, collection := col, hasDel := false } := by unfold clsIn; rw [hC] <;> rfl
  refine ks_codeAny_call_defAt (binds := [("self", .ref x), (fld, v)]) hr.depth (X _ _ ho) rfl hlim ⟨cda, _, vs, tq, rfl, X _ _ hcd, rfl, hvq⟩ rfl (G.bnd _ _ _ _ _ _ _ _ _ _ _ _ _) G.noc ?_ ?_ rfl rfl rfl
  · intro y hy
    simp only [List.mem_cons, List.not_mem_nil, or_false] at hy
    rcases hy with rfl | rfl
    · exact G.lkS
    · exact G.lkF
  intro h₁ hn k
  have X₁ : K.In h₁ := X.keeps k
  have hx₁ := k _ _ hx
  have hxL : x < s.heap.objs.size := Heap.lt_size hx
  have X₀ : K.In (without s.heap x) := fun a o e => by
    have ne : a ≠ x := fun z => by rw [z, hnx] at e; cases e
    rw [without_ne _ _ _ ne]; exact X a o e
  obtain ⟨env, henv⟩ : ∃ env, env = callEnv (ksFn "__init__" qual (eA fld p1 p2) (eB fld parts mp q1 q2 q3 q4 q5 q6 q7 q8 q9) (eS fld ex) .none .none doc pm an (.ref cda) ct cc) s.heap.objs.size fI := ⟨_, rfl⟩
  obtain ⟨pl, hpl⟩ := hev (callEnv (ksFn "__init__" qual (eA fld p1 p2) (eB fld parts mp q1 q2 q3 q4 q5 q6 q7 q8 q9) (eS fld ex) .none .none doc pm an (.ref cda) ct cc) s.heap.objs.size fI)
  refine ks_wpAt_execs_cons (ks_wpAt_Expr_any (ks_wpAt_MethodCall (he := hpl) (ks_wpAt_super_base G.lkU G.lkC (by decide) (f := fI) rfl (k _ _ (X _ _ ho)) rfl rfl rfl (k _ _ (X _ _ hcd)) rfl hvf hfile T.noTop ?_)))
  refine ks_loadName_global rfl G.lkU (loadGlobal_builtin (hg.keeps k) T.noSuper (hb.keeps k) hmb ⟨rfl, ?_⟩)
  refine wpAny_loadName_free rfl G.lkC (c := cc) (v := .ref C) rfl ⟨_, k _ _ (X _ _ hcell), rfl⟩ ?_
  refine wpAny_loadName_local rfl G.lkS hn (G.bs _ _) ?_
  refine ks_wpAny_isType_cls (k _ _ (X _ _ hC)) rfl ⟨rfl, ?_⟩
  refine ks_wpAny_call_super (k _ _ (X _ _ hC)) rfl hx₁ rfl (fun c e => by cases e) (looks_mroIn X₁ T.mroS) fun h₂ hso k₂ => ?_
  have zL : s.heap.objs.size < h₁.objs.size := hn.lt
  have F2 : Fr (without s.heap x) s.heap.objs.size h₂ (fun y => List.lookup y [(("self" : Str), Value.ref x), (fld, v)].reverse) :=
    ⟨hn.keeps k₂, fun b o e => by
      by_cases hb : b = x
      · rw [hb, without_at] at e; cases e
      · rw [without_ne _ _ _ hb] at e; exact k₂ _ _ (k _ _ e), by rw [without_size]; exact Nat.le_refl _⟩
  have N2 : News (without s.heap x) s.heap.objs.size h₂ [(h₁.objs.size, ks_superObj C x C), (x, excObj C t0 none .none)] := by
    intro p hp
    simp only [List.mem_cons, List.not_mem_nil, or_false] at hp
    rcases hp with rfl | rfl
    · refine ⟨hso, Nat.ne_of_gt zL, ?_⟩
      rw [without_ne _ _ _ (Nat.ne_of_gt (Nat.lt_trans hxL zL))]
      cases e : s.heap.get? h₁.objs.size with
      | none => rfl
      | some o => exact absurd (Heap.lt_size e) (Nat.not_lt.mpr (Nat.le_of_lt zL))
    · exact ⟨k₂ _ _ hx₁, Nat.ne_of_lt hxL, without_at _ _⟩
  refine kxs_method kxs_ValueError F2 X₀ N2 List.mem_cons_self (.of_exc0 N2 (List.mem_cons_of_mem _ List.mem_cons_self)) T.third T.sup T.subV (by decide) fun u h₃ F3 N3 lt3 => ?_
  refine kxs_callWith1 N3 List.mem_cons_self (spliced_more ?_ (G.star _)) (G.star _) rfl
  rw [← henv]
  have k3 : ∀ b o, b ≠ x → s.heap.get? b = some o → h₃.get? b = some o := fun b o hb e => F3.keep b o (by rw [without_ne _ _ _ hb]; exact e)
  have kb : ∀ b o, base.get? b = some o → h₃.get? b = some o := fun b o e => k3 b o (fun z => by rw [z, hbx] at e; cases e) (e0.bs b o e).1
  have fne : ∀ b ∈ L2.frs outer, b ≠ x := fun b hb z => by
    obtain ⟨_, o, ho', hf⟩ := e0.funs.mem (b := b) hb
    rw [z, hx] at ho'; cases ho'
    exact hf _ rfl
  have funs3 : h₃.FunFrames base outer := e0.funs.of_keeps fun b o e hf => by
    refine ⟨o, k3 b o (fun z => ?_) e, rfl⟩
    rw [z, hx] at e; cases e
    exact hf _ rfl
  have hL3 : base.get? s.heap.objs.size = none := Heap.get?_none_of_le e0.bsz
  have efr : env.frame = some s.heap.objs.size := by rw [henv] <;> rfl
  have elo : env.locals = s.heap.objs.size := by rw [henv] <;> rfl
  have ens : h₃.Ns env.locals (fun y => List.lookup y [(("self" : Str), Value.ref x), (fld, v)].reverse) := by rw [elo]; exact F3.ns
  have e3 : ∀ tk, L2.Env0 prog w K mg base (A.deeper env) (env :: outer) { s with heap := h₃, toks := tk } (fun _ => none) := fun tk =>
    ⟨Around.frames_deeper e0.frames, e0.mod, fun b o e => ⟨kb b o e, rfl⟩, Nat.le_trans e0.bsz (Nat.le_of_lt F3.ns.lt), .cons (by rw [henv]; intro z; cases z) efr (by rw [← elo]; exact ens) hL3 funs3, fun _ _ => rfl, fun a o q => (by cases q), e0.bare⟩
  refine M (A.deeper env) (env :: outer) _ _ env _ _ (by rw [henv] <;> rfl) (by rw [henv] <;> rfl) (by rw [henv] <;> rfl) (hr.deeper env) (e3 _) ens (G.bf _ _) fun um s4 os4 bare4 K4 => spliced_none ?_
  have efs : L2.frs (env :: outer) = s.heap.objs.size :: L2.frs outer := by unfold L2.frs; rw [List.filterMap_cons, efr]
  rw [efs] at K4
  obtain ⟨h4, g4, d4, t4, o4⟩ := s4
  obtain rfl : o4 = s.os := os4
  -- what stands beside the frames
  have nf : ∀ p ∈ (u, kxs_mw "ValueError.__init__" x) :: [(h₁.objs.size, ks_superObj C x C), (x, excObj C t0 none .none)], p.1 ∉ s.heap.objs.size :: L2.frs outer := by
    intro p hp z
    rcases List.mem_cons.mp z with z | z
    · exact (N3 p hp).2.1 z
    · obtain ⟨_, o, ho', hf⟩ := e0.funs.mem (b := p.1) z
      have lt := Heap.lt_size ho'
      simp only [List.mem_cons, List.not_mem_nil, or_false] at hp
      rcases hp with rfl | rfl | rfl
      · exact absurd (Nat.lt_trans (Nat.lt_trans lt zL) (lt3 _ List.mem_cons_self)) (Nat.lt_irrefl _)
      · exact absurd (Nat.lt_trans lt zL) (Nat.lt_irrefl _)
      · exact fne _ z rfl
  have F4 : Fr (cutH h4 s.heap.objs.size x) s.heap.objs.size h4 (fun y => List.lookup y [(("self" : Str), Value.ref x), (fld, v)].reverse) := by
    refine ⟨?_, fun b o e => ?_, cut_size _ _ _⟩
    · obtain ⟨o', es', ep', ho', r'⟩ := F3.ns
      obtain ⟨sl, z⟩ := K4.slot _ _ ho'
      exact ⟨_, es', ep', z, r'⟩
    · by_cases hb : b = x
      · rw [hb, cut_at] at e; cases e
      · by_cases hl : b < s.heap.objs.size
        · rw [cut_lt _ _ _ _ hl hb] at e; exact e
        · rw [cut_big _ _ _ _ (Nat.le_of_not_lt hl)] at e; cases e
  have N4 : News (cutH h4 s.heap.objs.size x) s.heap.objs.size h4 ((u, kxs_mw "ValueError.__init__" x) :: [(h₁.objs.size, ks_superObj C x C), (x, excObj C t0 none .none)]) := by
    intro p hp
    refine ⟨K4.keep _ _ (nf p hp) (N3 p hp).1, (N3 p hp).2.1, ?_⟩
    simp only [List.mem_cons, List.not_mem_nil, or_false] at hp
    rcases hp with rfl | rfl | rfl
    · exact cut_big _ _ _ _ (Nat.le_of_lt (Nat.lt_trans zL (lt3 _ List.mem_cons_self)))
    · exact cut_big _ _ _ _ (Nat.le_of_lt zL)
    · exact cut_at _ _ _
  have old4 : ∀ b o, b ≠ x → b ∉ L2.frs outer → s.heap.get? b = some o → h4.get? b = some o := fun b o hb hf e =>
    K4.keep b o (fun z => (List.mem_cons.mp z).elim (fun z => absurd (Heap.lt_size e) (by rw [z]; exact Nat.lt_irrefl _)) hf) (k3 b o hb e)
  have base4 : ∀ b o, base.get? b = some o → b ≠ x ∧ b < s.heap.objs.size ∧ h4.get? b = some o := fun b o e => by
    have hb : b ≠ x := fun z => by rw [z, hbx] at e; cases e
    have e' := (e0.bs b o e).1
    exact ⟨hb, Heap.lt_size e', old4 b o hb (fun z => by have := (e0.funs.mem (b := b) z).1; rw [e] at this; cases this) e'⟩
  have X4 : K.In (cutH h4 s.heap.objs.size x) := fun a o e => by
    obtain ⟨p, q, r⟩ := base4 a o (e0.mod.kin a o e)
    rw [cut_lt _ _ _ _ q p]; exact r
  refine ⟨kxs_at N4 List.mem_cons_self, ?_⟩
  refine kxs_call (bmB := veTail) (newId := "ValueError.__new__") (dv := none) (c2 := .none) (t := t0) F4 X4 N4 F.excBase_ValueError T.ini List.mem_cons_self (.tail ?_ (.tail ?_ (.head ?_))) ?_ fun t' h₅ F5 N5 lt5 => ?_
  · exact Nat.ne_of_gt (lt3 _ (List.mem_cons_of_mem _ List.mem_cons_self))
  · exact Nat.ne_of_gt (Nat.lt_trans hxL zL)
  · intro p hp; cases hp
  · rw [sizeLine_eq]; exact (by decide : 1 ≤ 16777216)
  rw [henv] at *
  refine wpAt_of_wpAny ?_
  have hx5 : h₅.get? x = some (excO C t') := (N5 (x, excObj C t' none .none) (by simp)).1
  have c5 : ∀ b o, b ≠ x → b < s.heap.objs.size → h4.get? b = some o → h₅.get? b = some o := fun b o hb hl e => F5.keep b o (by rw [cut_lt _ _ _ _ hl hb]; exact e)
  have k5 : ∀ b o, b ≠ x → b ∉ L2.frs outer → s.heap.get? b = some o → h₅.get? b = some o := fun b o hb hf e => c5 b o hb (Heap.lt_size e) (old4 b o hb hf e)
  have s5 : ∀ b o, b ≠ x → s.heap.get? b = some o → ∃ sl, h₅.get? b = some { o with slots := sl } := fun b o hb e => by
    obtain ⟨sl, z⟩ := K4.slot b o (k3 b o hb e)
    exact ⟨sl, c5 b _ hb (Heap.lt_size e) z⟩
  have X5 : K.In h₅ := fun a o e => by
    obtain ⟨p, q, r⟩ := base4 a o (e0.mod.kin a o e)
    exact c5 a o p q r
  refine wpAny_execs_cons (plainObj_wpAny_Assign_Attribute ?_)
  refine ld1 (v := v) F5.ns (G.bf _ _) (ld1 (v := .ref x) F5.ns (G.bs _ _) ?_ rfl G.lkS (by decide)) rfl G.lkF G.dbg
  refine set_plain X5 (ox := excO C t') (od := none) ⟨hx5, rfl, rfl, trivial⟩ T.sa ?_
  refine exc_osa X5 hx5 hcl (show refsVE (.ref C :: bm) = true from hbm) rfl T.noN (fun h₆ tk₆ dx k₆ dn dne hx₆ hn₆ => ?_)
  exact wpAny_execs_nil (hq _ dx rfl bare4 ⟨fun b o hb hf e => k₆ b o hb (k5 b o hb hf e), fun b o hb e => let ⟨sl, z⟩ := s5 b o hb e; ⟨sl, k₆ b _ hb z⟩, ⟨t', hx₆⟩, Nat.le_of_lt (Nat.lt_of_lt_of_le F5.ns.lt dn), dne, hn₆⟩)
theorem err_made (T : ErrTxt prog K mg nm fld ex parts mp C fI) (G : FldOk fld ex parts mp) {v : Value} (M : MsgOk prog w K mg base lv ex parts mp fld v)
    (e0 : L2.Env0 prog w K mg base A outer s (fun _ => none)) (hr : L2.Room (lv + 2) A)
    (hq : ∀ s' e d, s'.os = s.os → AllBare s'.gens → OwnMade (L2.frs outer) fld s.heap s'.heap e C d v → R (.ok (.ret (.ref e))) s') :
    codeAny (model prog w) A (.call (.ref C) ⟨[v], []⟩) R s := by
  obtain ⟨nm, q, N, bs, bm, sn, sub, ab, col, dd, k0, k1, k2, k3, k5, hC, hbm⟩ := T.cls
  obtain ⟨hp, g, dr, tk, os⟩ := s
  have X : K.In hp := e0.mod.kin.keeps fun b o e => (e0.bs b o e).1
  have k : ∀ b o, hp.get? b = some o → ((hp.push (kdv_tup [v])).push (excO C hp.objs.size)).get? b = some o := fun b o e => Heap.get?_push_of_some _ (Heap.get?_push_of_some _ e)
  have hget : ((hp.push (kdv_tup [v])).push (excO C hp.objs.size)).get? (hp.objs.size + 1) = some (excO C hp.objs.size) := by heap_get
  have hnx : K.lookup (hp.objs.size + 1) = none := by
    cases e : K.lookup (hp.objs.size + 1) with
    | none => rfl
    | some o =>
      have z : hp.get? (hp.objs.size + 1) = some o := X _ _ e
      exact absurd (Nat.lt_of_succ_lt (Heap.lt_size z)) (Nat.lt_irrefl _)
  have hbx : base.get? (hp.objs.size + 1) = none := Heap.get?_none_of_le (Nat.le_trans e0.bsz (Nat.le_succ _))
  have sz : ((hp.push (kdv_tup [v])).push (excO C hp.objs.size)).objs.size = hp.objs.size + 1 + 1 := by
    first
      | rfl
      | simp [Heap.size_push]
  refine call_own F.excBase_ValueError (fun X => refsVE_contains X bm hbm) (X _ _ hC) (looks_findIn X T.iC) (fun self => bind_fn X self T.tC) (by rw [sizeLine_eq]; exact (by decide : 1 ≤ 16777216)) ?_
  have e1 := e0.make C [v] []
  have e2 : L2.Env0 prog w K mg base (A.under (.builtin "type.__call__" ⟨.ref C :: [v], []⟩)) outer ⟨(hp.push (kdv_tup [v])).push (excO C hp.objs.size), g, dr, tk, os⟩ (fun _ => none) :=
    ⟨e1.frames, e1.mod, fun b o e => ⟨k b o (e1.bs b o e).1, rfl⟩, by show base.objs.size ≤ ((hp.push (kdv_tup [v])).push (excO C hp.objs.size)).objs.size; rw [sz]; exact Nat.le_trans e1.bsz (Nat.le_trans (Nat.le_succ _) (Nat.le_succ _)),
      e1.funs.of_keeps fun b o e _ => ⟨o, k b o e, rfl⟩, fun _ _ => rfl, fun a o q => (by cases q), e1.bare⟩
  refine err_init (s := ⟨(hp.push (kdv_tup [v])).push (excO C hp.objs.size), g, dr, tk, os⟩) T G M e2 hget hnx hbx (hr.make C [v] []) fun s' dx os' bare' ⟨k', s', ⟨t1, hx⟩, dn, dne, hns⟩ => ?_
  have z : hp.objs.size + 1 + 1 ≤ dx := by rw [← sz]; exact dn
  refine ⟨rfl, hq _ (hp.objs.size + 1) dx os' bare' ⟨⟨fun b o hf e => k' b o (Nat.ne_of_lt (Nat.lt_succ_of_lt (Heap.lt_size e))) hf (k b o e), fun b o e => s' b o (Nat.ne_of_lt (Nat.lt_succ_of_lt (Heap.lt_size e))) (k b o e)⟩, Nat.le_succ _, ⟨_, _, hx, rfl, rfl, rfl, rfl⟩, Nat.le_trans (Nat.le_trans (Nat.le_succ _) (Nat.le_succ _)) z, dne, hns⟩⟩
end
end Errs
end PySem

set_option Elab.async false
set_option linter.all false
set_option maxRecDepth 100000
set_option maxHeartbeats 4000000
namespace L2
open PySem PySem.Spec PyProof.Rows
theorem relO_fld {v : V} {v' : Value} (fld : Str) (r : RelV v v') (f : Str) : RelO (List.lookup f [(fld, v)]) (if f = fld then some v' else none) := by
  by_cases hw : f = fld
  · subst hw
    rw [if_pos rfl]
    have q : List.lookup f [(f, v)] = some v := by simp [List.lookup]
    rw [q]
    exact r
  · rw [if_neg hw]
    have qw : (f == fld) = false := by simpa using hw
    have q2 : List.lookup f [(fld, v)] = none := by simp [List.lookup, qw]
    rw [q2]
    trivial
/-- the message of this value is written, whatever stands for it -/
def MsgV (X : Cx) (lv : Nat) (ex : List (Str × NameKind)) (parts : List Expr) (mp : Pos) (fld : Str) (v : V) : Prop := ∀ u, RelV v u → PySem.Errs.MsgOk X.prog X.w X.K X.mg X.base lv ex parts mp fld u
section
variable {X : Cx} {nm fld : Str} {ex : List (Str × NameKind)} {parts : List Expr} {mp : Pos} {C fI : Addr} {lv : Nat}
/-- NAME(e) -/
def tMkErr (Mv : V → Prop) (fld : Str) (C : Addr) (ta : TA) : St → Hp → XK → Prop := fun σ H Q => ta σ H fun vs H1 => ∃ v, vs = [v] ∧ Mv v ∧ ∀ d, H1 d = none → Q (.ref C) (some d) (upd H1 d (.xd [(fld, v)]))
theorem pmk_err {a : Expr} {ta : TA} {p pos : Pos} {k : Nat} (T : PySem.Errs.ErrTxt X.prog X.K X.mg nm fld ex parts mp C fI) (G : PySem.Errs.FldOk fld ex parts mp) (hr : Room k X.A) (ha : PA X [a] ta) (hlv : lv + 2 ≤ k := by decide) (hg : Gl X nm := by rfl)
    (hdb : (nm == PySem.Str.ofString "__debug__") = false := by decide)
    (he : starEach (a :: []) X.env = (false, eval a X.env) :: starEach [] X.env := by rfl) (hpl : (backTo pos (starEach [] X.env)).any (·.1) = false := by rfl) :
    PMk X (.Call (.Name nm p) [a] [] pos) (tMkErr (MsgV X lv ex parts mp fld) fld C ta) := by
  intro pins s σ H Q I h
  refine wpAny_Call_Name_kw (ld_glob I hg T.gC ?_ hdb)
  refine PySem.W.callWith_K (h₀ := X.base) I.ok.mod.kin T.kC (thn (ha.run pos pins s σ H _ I h) fun us s1 hh => ?_) he hpl
  obtain ⟨vs, H1, I1, r1, v, ev, mv, q1⟩ := hh
  subst ev
  refine ⟨I1.kIn, ?_⟩
  cases r1 with
  | cons rv rn =>
    rename_i v' us'
    cases rn
    show wpAny _ _ (call (.ref C) [v']) _ _ _
    have e0 := PySem.Errs.env0_none I1.env0
    refine wpAny_call (PySem.Errs.err_made T G (mv v' rv) e0 (hr.mono hlv) fun s' e d os' bare' M => ?_)
    obtain ⟨hp, g, dr, tk, os⟩ := s1
    obtain ⟨h', g', dr', tk', os2⟩ := s'
    obtain rfl : os2 = os := os'
    show MkP X pins σ Q (.ref e) ⟨h', g', dr', tk', os2⟩
    obtain ⟨oe, fv, hoe, hc, hd, hdat, h1⟩ := M.obj
    have hns := M.ns
    have hnew : hp.objs.size ≤ e := M.new
    have hdbig : hp.objs.size ≤ d := M.dbig
    have fe : H1 e = none := I1.hok.fresh hnew
    have fd : H1 d = none := I1.hok.fresh hdbig
    obtain ⟨G', g1, g2⟩ := restrict h' fun b => decide (b ≠ e)
    have gk : ∀ b, b ≠ e → G'.get? b = h'.get? b := fun b hb => g1 b (decide_eq_true hb)
    have ge : G'.get? e = none := g2 e (by simp)
    have ne : ∀ b o, hp.get? b = some o → b ≠ e := fun b o q => Nat.ne_of_lt (Nat.lt_of_lt_of_le (Heap.lt_size q) hnew)
    have nd : ∀ b o, hp.get? b = some o → b ≠ d := fun b o q => Nat.ne_of_lt (Nat.lt_of_lt_of_le (Heap.lt_size q) hdbig)
    have k1 : ∀ b o, b ∉ frs X.stack → hp.get? b = some o → G'.get? b = some o := fun b o hf q => (gk b (ne b o q)).trans (M.keep.keep b o hf q)
    have k2 : ∀ b o, hp.get? b = some o → ∃ sl, G'.get? b = some { o with slots := sl } := fun b o q => let ⟨sl, z⟩ := M.keep.slot b o q; ⟨sl, (gk b (ne b o q)).trans z⟩
    have ob : ObjOk X.prog X.w (upd H1 d (.xd [(fld, v)])) G' d (.xd [(fld, v)]) :=
      ⟨_, hns.at (fun o q => (gk d M.dne).trans q), fun f => relO_fld fld rv f⟩
    have tne : ∀ b o, H1 b = some o → b ≠ d := fun b o q z => by rw [z, fd] at q; cases q
    have un : Un (frs X.stack) [] H1 (upd H1 d (.xd [(fld, v)])) hp G' :=
      ⟨fun b o q _ hf _ => k1 b o hf q, fun b o q _ _ _ => k2 b o q, fun b o q n _ => by rw [upd_ne (nd b o q)]; exact n, fun b o q _ => let ⟨sl, z⟩ := k2 b o q; ⟨_, z⟩,
        fun b xs q => by rw [upd_ne (tne b _ q)]; exact q, fun b u xs q => by rw [upd_ne (tne b _ q)]; exact q, fun b ps q => ⟨#[], by rw [upd_ne (tne b _ q), q]; simp⟩⟩
    have free := I1.stkFree
    have hok : HOk X.prog X.w (upd H1 d (.xd [(fld, v)])) G' := fun b u q => by
      by_cases hb : b = d
      · subst hb; rw [upd_same] at q; cases q; exact ob
      · rw [upd_ne hb] at q
        refine (I1.hok b u q).stay (fun c o hc z => k1 c o (fun hf => ?_) z) (fun c z => by rw [upd_ne (tne c _ z)]; exact z) fun c xs z => by rw [upd_ne (tne c _ z)]; exact z
        have fc := free c hf
        rcases hc with rfl | hc
        · rw [q] at fc; cases fc
        · rw [hc] at fc; cases fc
    have J : Inv X pins σ (upd H1 d (.xd [(fld, v)])) ⟨G', g', dr', tk', os2⟩ := I1.call (g' := g') (t' := tk') (d' := dr') (ch := []) un hok bare' (fun _ z => nomatch z)
    refine ⟨e, oe, fv, ⟨G', g', dr', tk', os2⟩, _, .ref C, some d, rfl, J, fun b o q => ?_, ge, hoe, ⟨hc, hd⟩, hdat, h1, ?_, rfl, bare', raises_own T.exC T.tyC, q1 d fd⟩
    · by_cases hb : b = e
      · have q' : G'.get? b = some o := q
        rw [hb, ge] at q'; cases q'
      · exact (gk b hb).symm.trans q
    · rw [upd_ne (Ne.symm M.dne)]
      exact fe
/-- raise NAME(e) -/
def tRaiseErr (Mv : V → Prop) (fld : Str) (C : Addr) (W : WX) (ta : TA) : TS := fun _ σ H => tMkErr Mv fld C ta σ H fun cls d H' => W cls d σ H'
theorem ps_raiseErr {a : Expr} {ta : TA} {W : WX} {p pos pos2 : Pos} {k : Nat} (hc : X.calm = true) (T : PySem.Errs.ErrTxt X.prog X.K X.mg nm fld ex parts mp C fI) (G : PySem.Errs.FldOk fld ex parts mp) (hr : Room k X.A) (tk : Takes X W) (ha : PA X [a] ta) (hlv : lv + 2 ≤ k := by decide) (hg : Gl X nm := by rfl)
    (hdb : (nm == PySem.Str.ofString "__debug__") = false := by decide)
    (he : starEach (a :: []) X.env = (false, eval a X.env) :: starEach [] X.env := by rfl) (hpl : (backTo pos (starEach [] X.env)).any (·.1) = false := by rfl) :
    PS X (.Raise (some (.Call (.Name nm p) [a] [] pos)) none pos2) (tRaiseErr (MsgV X lv ex parts mp fld) fld C W ta) := ps_raise hc tk (pmk_err T G hr ha hlv hg hdb he hpl)
/-! ### the messages -/
/-- decimal(e) in a message -/
theorem dec_part {f : Addr} {fd : FuncData} {sp : Sp} {v : V} {u : Value} {p1 p2 p3 : Pos} (F : FnOk X.prog X.w X.K X.mg X.base CX0 lv f fd ["n"] sp) (gf : X.mg "decimal" = some (.ref f)) (kp : PySem.W.keepIn X.K (.ref f) = true) (hb : Binds X.K fd ["n"] [])
    (hsp : ∀ (Q : VK) (E : XK), (∀ z H', z.length ≤ 1000000 → Q (.str z) H') → sp [v] (fun _ => none) Q E) (r : RelV v u)
    {A : Around} {outer : List Env} {E : Value → Shared → Prop} {s : Shared} {env : Env} {m : Str → Option Value} {Q : Value → Shared → Prop}
    (hs : env.scope = PySem.Errs.eS fld [("decimal", .globalImplicit)]) (hgl : env.globals = mainGlobals) (hr : Room lv A) (e0 : Env0 X.prog X.w X.K X.mg X.base A outer s (fun _ => none))
    (hn : s.heap.Ns env.locals m) (hm : m fld = some u) (h1 : List.lookup fld (PySem.Errs.eS fld [("decimal", .globalImplicit)]).names = some .local) (h2 : List.lookup ("decimal" : Str) (PySem.Errs.eS fld [("decimal", .globalImplicit)]).names = some .globalImplicit)
    (hd : (fld == ("__debug__" : Str)) = false) (hst : starEach [.Name fld p2] env = (false, eval (.Name fld p2) env) :: starEach [] env) (hpl : (backTo p3 (starEach [] env)).any (·.1) = false)
    (h : ∀ z tk s', z.length ≤ 1000000 → s'.os = s.os → AllBare s'.gens → PySem.Errs.KeepF (frs outer) s.heap s'.heap → Q (.str z tk) s') :
    wpAny (model X.prog X.w) A (eval (.Call (.Name "decimal" p1) [.Name fld p2] [] p3) env) Q E s := by
  have kin : X.K.In s.heap := e0.mod.kin.keeps fun b o e => (e0.bs b o e).1
  have hkd : env.scope.kind = .function := by rw [hs] <;> rfl
  refine wpAny_Call_Name_kw (Calls.Name_function_global hkd (by show env.scope.names.lookup _ = _; rw [hs]; exact h2) (Calls.loadGlobal_global (by rw [hgl]; exact e0.mod.glob.keeps fun b o e => (e0.bs b o e).1) gf ?_) (by decide))
  refine PySem.W.callWith_K (h₀ := X.base) e0.mod.kin kp (PyProof.Rows.spliced_more ?_ hst) hst hpl
  refine PySem.Errs.ld1 hn hm ?_ hkd (by show env.scope.names.lookup _ = _; rw [hs]; exact h1) hd
  refine PyProof.Rows.spliced_none ⟨kin, ?_⟩
  have b0 := hb s [u] kin rfl
  refine wpAny_call (codeAny_mono (F.run A outer s _ ⟨[u], []⟩ [u] [v] _ (fun _ _ _ => False) hr e0 b0 (.cons r .nil) (hsp (fun x H' => ∃ z, x = .str z ∧ z.length ≤ 1000000) _ fun z H' hz => ⟨z, rfl, hz⟩)) fun res s' got => ?_)
  match res, got with
  | .error e, got => exact False.elim got
  | .ok (.ret y), got =>
    obtain ⟨x, H', os', bare', un, hok, rv, z, rfl, hz⟩ := got
    obtain ⟨tk, rfl⟩ := rv
    exact h z tk s' hz os' bare' (PySem.Errs.KeepF.of_un un)
  | .ok .next, got => cases got
  | .ok .brk, got => cases got
  | .ok .cont, got => cases got
theorem msg_dec2 {f : Addr} {fd : FuncData} {sp : Sp} {v : V} {a : Str} {k1 : Nat} {p1 p2 p3 p4 p5 mp : Pos} (F : FnOk X.prog X.w X.K X.mg X.base CX0 lv f fd ["n"] sp) (gf : X.mg "decimal" = some (.ref f)) (kp : PySem.W.keepIn X.K (.ref f) = true) (hb : Binds X.K fd ["n"] [])
    (hsp : ∀ (Q : VK) (E : XK), (∀ z H', z.length ≤ 1000000 → Q (.str z) H') → sp [v] (fun _ => none) Q E)
    (h1 : List.lookup fld (PySem.Errs.eS fld [("decimal", .globalImplicit)]).names = some .local) (h2 : List.lookup ("decimal" : Str) (PySem.Errs.eS fld [("decimal", .globalImplicit)]).names = some .globalImplicit) (hd : (fld == ("__debug__" : Str)) = false)
    (hst : ∀ env : Env, starEach [.Name fld p2] env = (false, eval (.Name fld p2) env) :: starEach [] env) (hl : a.length ≤ 100) :
    MsgV X lv [("decimal", .globalImplicit)] [.Constant (.str a) k1 p4, .FormattedValue (.Call (.Name "decimal" p1) [.Name fld p2] [] p3) (-1) none p5] mp fld v := by
  intro u r A outer E s env m Q hs hgl hbl hr e0 hn hm hQ
  refine JoinedStr_many (joinParts_cons ?_)
  refine wpAny_Constant_str ?_
  have l0 : Str.empty.length = 0 := rfl
  refine ⟨by rw [sizeLine_eq, Str.length_append]; omega, ?_⟩
  refine joinParts_cons (FormattedValue_plain ?_)
  refine dec_part F gf kp hb hsp r hs hgl hr (e0 := ⟨e0.frames, e0.mod, e0.bs, e0.bsz, e0.funs, e0.frf, e0.hok, e0.bare⟩) hn hm h1 h2 hd (hst _) rfl fun z tk s' hz os' bare' K' => ?_
  refine formatField_str (fun t' tk' => ?_) (by rw [sizeLine_eq]; omega)
  refine ⟨by rw [sizeLine_eq, Str.length_append, Str.length_append]; omega, ?_⟩
  refine joinParts_nilE (joinParts_nil ?_ ?_)
  · exact hQ _ _ os' bare' K'
  · rw [sizeLine_eq, Str.length_append, Str.length_append]; omega
theorem msg_dec3 {f : Addr} {fd : FuncData} {sp : Sp} {v : V} {a b : Str} {k1 k2 : Nat} {p1 p2 p3 p4 p5 p6 mp : Pos} (F : FnOk X.prog X.w X.K X.mg X.base CX0 lv f fd ["n"] sp) (gf : X.mg "decimal" = some (.ref f)) (kp : PySem.W.keepIn X.K (.ref f) = true) (hb : Binds X.K fd ["n"] [])
    (hsp : ∀ (Q : VK) (E : XK), (∀ z H', z.length ≤ 1000000 → Q (.str z) H') → sp [v] (fun _ => none) Q E)
    (h1 : List.lookup fld (PySem.Errs.eS fld [("decimal", .globalImplicit)]).names = some .local) (h2 : List.lookup ("decimal" : Str) (PySem.Errs.eS fld [("decimal", .globalImplicit)]).names = some .globalImplicit) (hd : (fld == ("__debug__" : Str)) = false)
    (hst : ∀ env : Env, starEach [.Name fld p2] env = (false, eval (.Name fld p2) env) :: starEach [] env) (hl : a.length ≤ 100 ∧ b.length ≤ 100) :
    MsgV X lv [("decimal", .globalImplicit)] [.Constant (.str a) k1 p4, .FormattedValue (.Call (.Name "decimal" p1) [.Name fld p2] [] p3) (-1) none p5, .Constant (.str b) k2 p6] mp fld v := by
  intro u r A outer E s env m Q hs hgl hbl hr e0 hn hm hQ
  refine JoinedStr_many (joinParts_cons ?_)
  refine wpAny_Constant_str ?_
  have l0 : Str.empty.length = 0 := rfl
  refine ⟨by rw [sizeLine_eq, Str.length_append]; omega, ?_⟩
  refine joinParts_cons (FormattedValue_plain ?_)
  refine dec_part F gf kp hb hsp r hs hgl hr (e0 := ⟨e0.frames, e0.mod, e0.bs, e0.bsz, e0.funs, e0.frf, e0.hok, e0.bare⟩) hn hm h1 h2 hd (hst _) rfl fun z tk s' hz os' bare' K' => ?_
  refine formatField_str (fun t' tk' => ?_) (by rw [sizeLine_eq]; omega)
  refine ⟨by rw [sizeLine_eq, Str.length_append, Str.length_append]; omega, ?_⟩
  refine joinParts_consE (joinParts_cons ?_)
  refine wpAny_Constant_str ?_
  refine ⟨by rw [sizeLine_eq, Str.length_append, Str.length_append, Str.length_append]; omega, ?_⟩
  refine joinParts_nilE (joinParts_nil ?_ ?_)
  · exact hQ _ _ os' bare' K'
  · rw [sizeLine_eq, Str.length_append, Str.length_append, Str.length_append]; omega
theorem msg_str2 {a : Str} {k1 : Nat} {p1 p2 p3 mp : Pos} {z : Str} (h1 : List.lookup fld (PySem.Errs.eS fld []).names = some .local) (hd : (fld == ("__debug__" : Str)) = false)
    (hl : a.length ≤ 100) (ht : z.length ≤ 10000) :
    MsgV X lv [] [.Constant (.str a) k1 p1, .FormattedValue (.Name fld p2) (-1) none p3] mp fld (.str z) := by
  intro u r
  obtain ⟨tk, rfl⟩ := r
  intro A outer E s env m Q hs hgl hbl hr e0 hn hm hQ
  refine JoinedStr_many (joinParts_cons ?_)
  refine wpAny_Constant_str ?_
  have l0 : Str.empty.length = 0 := rfl
  refine ⟨by rw [sizeLine_eq, Str.length_append]; omega, ?_⟩
  refine joinParts_cons (FormattedValue_plain ?_)
  refine PySem.Errs.ld1 hn hm ?_ (by rw [hs] <;> rfl) (by show env.scope.names.lookup _ = _; rw [hs]; exact h1) hd
  refine formatField_str (fun t' tk' => ?_) (by rw [sizeLine_eq]; omega)
  refine ⟨by rw [sizeLine_eq, Str.length_append, Str.length_append]; omega, ?_⟩
  refine joinParts_nilE (joinParts_nil ?_ ?_)
  · exact hQ _ _ rfl e0.bare (.of fun _ _ e => e)
  · rw [sizeLine_eq, Str.length_append, Str.length_append]; omega
/-! ### isinstance(e, CLASS) of a caught error that keeps values -/
structure ExcD (K : PySem.W.Frag) (D : Addr) : Prop where
  cl : (PySem.W.clsIn K D).isSome = true
  ga : PySem.W.findIn K (.ref D) "__getattribute__" = some (some (.builtin "BaseException.__getattribute__"))
  gg : PySem.W.findIn K (.ref D) "__getattr__" = some none
  ex : PySem.W.subIn K (.ref D) (.type "BaseException") = some true
  cc : PySem.W.findIn K (.ref D) "__class__" = some (some (.builtin "object.__class__"))
  sp : PySem.W.specialIn K (.builtin "object.__class__") "__get__" = some (some (.builtin "getset_descriptor.__get__"))
  tk : PySem.W.takesIn K (.builtin "object.__class__") = some true
  mo : PySem.W.mroIn K D (.type "object") = some true
def rIsD (K : PySem.W.Frag) (D : Addr) (a : Addr) (cls : Value) (d : Option Addr) : List V → Hp → VK → Prop := fun xs H Q =>
  ∃ c cv b dd fl, xs = [.ref a, c] ∧ cls = .ref D ∧ d = some dd ∧ (∀ u, RelV c u → u = cv) ∧ PySem.W.kitOne K (.ref D) cv = some b ∧ H dd = some (.xd fl) ∧ Q (.bl b) H
theorem call_isD {X : Cx} {a D : Addr} {cls : Value} {do_ : Option Addr} {oe : Obj} {pn : List (Addr × Obj)} (C : ExcD X.K D) (hz : Zc cls do_ oe) (hf : ∃ vs, oe.data = .fields vs) :
    CallR (X.suite a ((a, oe) :: pn)) (.builtin "isinstance") (rIsD X.K D a cls do_) := by
  intro pins s σ H xs us Q I r h
  obtain ⟨c, cv, b, d, fl, rfl, rfl, rfl, hcv, e, hd, q⟩ := h
  cases r with
  | cons rx rr =>
    cases rr with
    | cons rt rn =>
      cases rn
      obtain rfl := hcv _ rt
      obtain rfl : _ = Value.ref a := rx
      obtain ⟨ha, _⟩ := I.pin (a, oe) (List.mem_append_left _ List.mem_cons_self)
      obtain ⟨vs, hv⟩ := hf
      have hx : ObjOk X.prog X.w H s.heap d (.xd fl) := I.hok d _ hd
      obtain ⟨mA, hns, hr⟩ := hx
      obtain ⟨od, ho, hl⟩ := lookIn_ns hns
      have J : PySem.W.InstAt s.heap a oe D (some od) := ⟨ha, hz.1, by unfold PySem.W.notCls; rw [hv] <;> rfl, by rw [hz.2]; exact ho⟩
      exact PySem.W.kia_one (PySem.W.kitx_exc C.cl C.ga C.gg C.ex C.cc C.sp C.tk C.mo) I.kIn J e (by intro z; cases z) fun tk => ⟨V.bl b, H, I.tok _, rfl, q⟩
end
end L2
namespace Mine
open PySem
/-- an error of the class at S is what the clause that names S takes -/
theorem exm_own {K : PySem.W.Frag} {S : Addr} (h1 : PySem.W.subIn K (.ref S) (.type "BaseException") = some true) (h2 : PySem.W.isClsIn K S = true) (h3 : PySem.W.typeIn K (.ref S) = some (.type "type")) (h4 : PySem.W.subIn K (.ref S) (.ref S) = some true) :
    PySem.W.exmOne K (.ref S) (.ref S) = some true := by
  have e1 : (PySem.W.subIn K (.ref S) (.type "BaseException") == some true) = true := by rw [h1] <;> rfl
  have e2 : ((PySem.W.clsIn K S).isSome && PySem.W.typeIn K (.ref S) == some (.type "type")) = true := by
    have h2' : (PySem.W.clsIn K S).isSome = true := h2
    rw [h2', h3] <;> rfl
  show (if (PySem.W.subIn K (.ref S) (.type "BaseException") == some true) = true then (if ((PySem.W.clsIn K S).isSome && PySem.W.typeIn K (.ref S) == some (.type "type")) = true then PySem.W.subIn K (.ref S) (.ref S) else none) else none) = some true
  rw [if_pos e1, if_pos e2]
  exact h4
end Mine

set_option Elab.async false
set_option linter.all false
set_option maxRecDepth 100000
namespace L2
open PySem PySem.Spec PyProof.Rows
/-! an own object, and a method, whose def may raise, within a try's body -/
section
variable {X : Cx} {CX : CXT} {lv : Nat} {fa cA : Addr} {fd : FuncData} {pn : List Str} {sp : Sp} {nm mm : Str} {p1 p2 p3 : Pos} {e1 oe : Expr} {er : List Expr} {to' : TE} {tr : TA}
theorem mkS_run {EE : XK} {pins : List (Addr × Obj)} {σ : St} {H : Hp} {s : Shared} {Q : VK} {us : List Value} {vs : List V}
    (M : Mk X.K cA fa) (F : FnOk X.prog X.w X.K X.mg X.base CX lv fa fd pn sp) (rm : Room (lv + 1) X.A)
    (bi : Binds X.K fd pn []) (out : PassesAt CX X σ EE) (I : Inv X pins σ H s) (r : Vals vs us)
    (h : ∀ x dx, H x = none → H dx = none → dx ≠ x →
      sp (.ref x :: vs) (upd (upd H dx (.own x)) x (.ins cA dx [])) (fun v H2 => v = .non ∧ Q (.ref x) H2) EE) :
    wpAny (model X.prog X.w) X.A (call (.ref cA) us) (EP X pins σ Q) X.xe s := by
  have J := Inv.made (C := cA) I
  obtain ⟨n, en⟩ : ∃ n, n = s.heap.objs.size := ⟨_, rfl⟩
  have q0 := h _ _ (I.hok.fresh (Nat.le_succ _)) (I.hok.fresh (Nat.le_refl _)) (Nat.ne_of_lt (Nat.lt_succ_self _))
  have rr : Vals (V.ref (s.heap.objs.size + 1) :: vs) (Value.ref (s.heap.objs.size + 1) :: us) := .cons rfl r
  have ln : (Value.ref (s.heap.objs.size + 1) :: us).length = pn.length :=
    rr.length.symm.trans (F.len _ _ _ _ q0)
  have bb := bi _ (Value.ref (s.heap.objs.size + 1) :: us) J.kIn (by rw [List.append_nil]; exact ln)
  rw [List.append_nil] at bb
  have run := F.run _ X.stack _ _ ⟨Value.ref (s.heap.objs.size + 1) :: us, []⟩ _ _ _ EE
    (rm.make cA us []) (J.env0.make cA us []) bb rr q0
  refine wpAny_call (make_map (f := fa) I.kIn M.makes M.init (beq_iff_eq.mp M.fn) (codeAny_mono run fun res s' got => ?_))
  match res, got with
  | .error e, got => exact out pins _ _ e s' J got
  | .ok (.ret u), got =>
    obtain ⟨v, H', J3, rv, ev, q3⟩ := J.after got
    rw [ev] at rv
    exact ⟨rv, V.ref (s.heap.objs.size + 1), H', J3, rfl, q3⟩
  | .ok .next, got => cases got
  | .ok .brk, got => cases got
  | .ok .cont, got => cases got
def tMakeS (C : Addr) (sp : Sp) (E : St → XK) (t : TA) : TE := fun σ H Q => t σ H fun vs H1 => ∀ x dx, H1 x = none → H1 dx = none → dx ≠ x →
  sp (.ref x :: vs) (upd (upd H1 dx (.own x)) x (.ins C dx [])) (fun v H2 => v = .non ∧ Q (.ref x) H2) (E σ)
theorem pe_makeS {EE : St → XK} (M : Mk X.K cA fa) (F : FnOk X.prog X.w X.K X.mg X.base CX lv fa fd pn sp)
    (rm : Room (lv + 1) X.A) (hg : Gl X nm) (hm : X.mg nm = some (.ref cA)) (bi : Binds X.K fd pn [])
    (out : ∀ σ, PassesAt CX X σ (EE σ)) (ha : PA X (e1 :: er) tr) (nd : (nm == ("__debug__" : Str)) = false := by decide)
    (t1 : starEach (e1 :: er) X.env = (false, eval e1 X.env) :: starEach er X.env := by rfl)
    (t2 : (backTo p2 (starEach er X.env)).any (·.1) = false := by rfl) :
    PE X (.Call (.Name nm p1) (e1 :: er) [] p2) (tMakeS cA sp EE tr) := by
  constructor
  intro pins s σ H Q I h
  refine wpAny_Call_Name_kw (ld_glob I hg hm (PySem.W.callWith_K (h₀ := X.base) I.ok.mod.kin M.kp ?_ t1 t2) nd)
  exact thn (ha.run p2 pins s σ H _ I h) fun us s1 ⟨vs, H1, I1, r, q⟩ => ⟨I1.kIn, mkS_run M F rm bi (out σ) I1 r q⟩
def tMethX (C : Addr) (m : Str) (sp : Sp) (E : St → XK) (ta : TE) (t : TA) : TE := fun σ H Q => ta σ H fun x H1 => ∃ a dx fs, x = .ref a ∧ H1 a = some (.ins C dx fs) ∧ fs.lookup m = none ∧
  t σ H1 fun vs H2 => sp (x :: vs) H2 Q (E σ)
theorem pe_methX {EE : St → XK} {pl : Sem Bool} (ho : PE X oe to') (c : Cls X.K cA) (hm : Meth X.K cA mm fa)
    (F : FnOk X.prog X.w X.K X.mg X.base CX lv fa fd pn sp) (rm : Room lv X.A) (bi : Binds X.K fd pn [])
    (out : ∀ σ, PassesAt CX X σ (EE σ)) (ha : PA X (e1 :: er) tr)
    (t1 : starEach (e1 :: er) X.env = (false, eval e1 X.env) :: starEach er X.env := by rfl)
    (t2 : (backTo p2 (starEach er X.env)).any (·.1) = false := by rfl)
    (ev : eval (.Call (.Attribute oe mm p3) (e1 :: er) [] p2) X.env = (do
      let ov ← eval oe X.env
      standAt p3.atName
      let (f, first) ← holding [ov] (getMethod ov mm pl)
      callWith p2 f first (backTo p2 (starEach (e1 :: er) X.env)) (backToKw p2 (keywordEach [] X.env))) := by rfl) :
    PE X (.Call (.Attribute oe mm p3) (e1 :: er) [] p2) (tMethX cA mm sp EE to' tr) := by
  constructor
  intro pins s σ H Q I h
  refine PySem.W.methodCall_KW (pl := pl) (thn (ho.run pins s σ H _ I h) fun u s1 got => ?_) ev
  obtain ⟨x, H1, I1, rx, a, dx, fs, rfl, ea, l, q⟩ := got
  cases (show u = Value.ref a from rx)
  refine getmeth_ok I1 ea c hm l (PySem.W.callWith_K (first := [.ref a]) (h₀ := X.base) I.ok.mod.kin hm.kp ?_ t1 t2)
  exact thn (ha.run p2 pins s1 σ H1 _ I1 q) fun us s2 ⟨vs, H2, I2, r, q2⟩ => ⟨I2.kIn, run_fnS (us := .ref a :: us) (vs := .ref a :: vs) F rm bi (out σ) I2 (.cons rfl r) q2⟩
end
end L2

set_option Elab.async false
set_option linter.all false
set_option maxRecDepth 100000
namespace L2
open PySem PySem.Spec PySem.Calls PyProof.Rows
/-! an own object without a == of its own, against an integer -/
theorem int_eq_declines_ins (b : Int) (u : Tok) (a C dx : Addr) :
    Meets (Builtin.«int.__eq__» ⟨[.int b u, .ref a], []⟩) (fun _ R s => s.heap.get? a = some (PySem.W.instObj C dx) ∧ R (.ok (.ret .notImplemented)) s) :=
  .of_wp fun prog w A R s h => by
    obtain ⟨hp, g, d, tk, os⟩ := s
    obtain ⟨hl, h⟩ := h
    unfold PySem.W.instObj at hl
    wp_walk using wpAny_loadPart' hl, wpAny_load hl
    exact ⟨_, rfl, h⟩
section
variable {prog : Program} {w : World} {A : Around} {E : Value → Shared → Prop} {s : Shared} {K : PySem.W.Frag} {x C dx : Addr} {od : Option Obj}
theorem ifBound_B {name : Str} {id : String} {args : List Value} {Q : Option Value → Shared → Prop} (X : K.In s.heap) (I : PySem.W.InstAt s.heap x (PySem.W.instObj C dx) C od)
    (hs : PySem.W.findIn K (.ref C) name = some (some (.builtin id))) (hb : ∀ self, bindSpecial (.builtin id) self = pure (.builtin id, [self]))
    (h : wpAny (model prog w) A (call (.builtin id) (.ref x :: args)) (fun v => Q (some v)) E s) : wpAny (model prog w) A (callSpecialIfBound? (.ref x) name args) Q E s := by
  simp only [callSpecialIfBound?, bindSpecialIfBound?]
  refine wpAny_holding (wpAny_bind (wpAny_bind (wpAny_bind (I.type.here ((PySem.W.looks_findIn X hs).here ?_)))))
  simp only [hb]
  refine wpAny_bind (wpAny_askSetting (wpAny_ite ?_))
  have fin : wpAny (model prog w) A (call (.builtin id) ([.ref x] ++ args) >>= fun v => pure (some v)) Q E s := wpAny_bind (wpAny_mono h (fun v s' h' => wpAny_pure h') fun _ _ h' => h')
  split
  · exact wpAny_bind (wpAny_pure (by exact wpAny_pure fin))
  · exact wpAny_tryCatch (wpAny_bind (wpAny_pure (by exact wpAny_pure fin)))
theorem call_objEq_int {n : Int} {t : Tok} {Q : Value → Shared → Prop} (X : K.In s.heap) (I : PySem.W.InstAt s.heap x (PySem.W.instObj C dx) C od)
    (ho : PySem.W.mroIn K C (.type "object") = some true) (hq : Q .notImplemented s) :
    wpAny (model prog w) A (call (.builtin "object.__eq__") [.ref x, .int n t]) Q E s := by
  refine wpAny_call (codeAny_call_builtin F.cmp_object.eq.plain F.cmpEntry_eq ?_)
  simp only [checkBuiltinCall, F.cmpKind_eq, F.cmpSplit_eq]
  refine wpAny_bind ?_
  unfold isInstance
  refine wpAny_bind (I.type.here ((PySem.W.looks_subIn (t := .ref C) X ho).here ?_))
  have body : wpAny (model prog w) A.in1 (Builtin.«object.__eq__» ⟨[.ref x, .int n t], []⟩) (fun fin s' => fin = .done (.ret .notImplemented) ∧ s' = s) E s := by
    unfold Builtin.«object.__eq__»
    have q : isSame (.ref x) (.int n t) = pure false := rfl
    repeat (first | rw [q] | wp_step)
    exact ⟨rfl, rfl⟩
  have fin : wpAny (model prog w) A.in1 (Builtin.«object.__eq__» ⟨[.ref x, .int n t], []⟩) (fun fin s' => match fin with
      | .done f => (match (Except.ok f : Result) with | .ok (.ret v) => Q v s' | .ok _ => False | .error e => E e s')
      | .again c' => c'.quiet = true ∧ codeAny (model prog w) A c' (fun r s' => match r with | .ok (.ret v) => Q v s' | .ok _ => False | .error e => E e s') s') (fun e s' => E e s') s :=
    wpAny_mono body (fun f s' h => by obtain ⟨rfl, rfl⟩ := h; exact hq) (fun _ _ e => e)
  cases hsig : Manifest.signature? "object.__eq__" with
  | none => exact wpAny_pure fin
  | some sig =>
    have ha := F.cmpArgs_eq (.ref x) (.int n t)
    simp only [argsOk, hsig] at ha
    have h2 : Bind.checkArgs "object.__eq__" sig ⟨[.ref x, .int n t], []⟩ = pure () := ha
    show wpAny (model prog w) A.in1 (Bind.checkArgs "object.__eq__" sig ⟨[.ref x, .int n t], []⟩) _ _ s
    rw [h2]
    exact wpAny_pure fin
theorem richCompare_inst_int {n : Int} {t : Tok} {Q : Value → Shared → Prop} (hu : A.units < cLine) (X : K.In s.heap) (I : PySem.W.InstAt s.heap x (PySem.W.instObj C dx) C od)
    (hs : PySem.W.findIn K (.ref C) "__eq__" = some (some (.builtin "object.__eq__"))) (ho : PySem.W.mroIn K C (.type "object") = some true)
    (hn : PySem.W.subIn K (.type "int") (.ref C) = some false) (hq : Q (.bool false) s) : wpAny (model prog w) A (richCompare .Eq (.ref x) (.int n t)) Q E s := by
  unfold richCompare
  simp only [oneThing_ref]
  refine wpAny_holding (wpAny_bind (wpAny_cRoomFor hu ?_))
  refine wpAny_bind (I.type.here (wpAny_bind (wpAny_typeOf (typeIs_int s n t) ?_)))
  have e1 : (Value.ref C != Value.type "int") = true := by rfl
  simp only [e1, if_true]
  refine wpAny_bind ((PySem.W.looks_subIn X hn).here ?_)
  simp only [Bool.false_eq_true, if_false, Bool.not_false, if_true]
  refine wpAny_bind (m := tryCompare (.ref x) _ (.int n t)) ?_
  unfold tryCompare
  refine wpAny_bind (ifBound_B X I hs F.cmp_object.eq.bind (call_objEq_int X I ho ?_))
  refine wpAny_pure ?_
  refine wpAny_bind (m := tryCompare (.int n t) _ (.ref x)) (wpAny_tryCompare_declines (typeIs_int s n t) F.slot_int_eq_refl (call_meets F.slot_int_eq_refl (typeIs_int s n t) F.entry_int_eq (F.args_int_eq_2 _ _) (int_eq_declines_ins n t x C dx) ⟨I.at_, rfl, ?_⟩))
  exact wpAny_bind (wpAny_rule (wpAny_bind (wpAny_of_eq (rfl : isSame (.ref x) (.int n t) = pure false) (wpAny_pure hq))))
end
structure ClsEq (K : PySem.W.Frag) (C : Addr) : Prop where
  eq : PySem.W.findIn K (.ref C) "__eq__" = some (some (.builtin "object.__eq__"))
  ob : PySem.W.mroIn K C (.type "object") = some true
  nt : PySem.W.subIn K (.type "int") (.ref C) = some false
section
variable {X : Cx}
def rEqOI (C : Addr) : R2 := fun x y H Q => ∃ (a dx : Addr) (fs : List (Str × V)) (i : Int), x = .ref a ∧ y = .int i ∧ H a = some (.ins C dx fs) ∧ Q (.bl false) H
theorem op_eqOI {C : Addr} (q : ClsEq X.K C) (hu : X.A.units < cLine) : OpR X (compareOp .Eq) (rEqOI C) := by
  intro pins s σ H x y v u Q I rx ry h
  obtain ⟨a, dx, fs, i, rfl, rfl, ha, hq⟩ := h
  cases (show v = Value.ref a from rx)
  obtain ⟨t, rfl⟩ := ry
  obtain ⟨mA, J, _⟩ := ins_get I.hok ha
  obtain ⟨od, J, _⟩ := J.look
  exact richCompare_inst_int hu I.kIn J q.eq q.ob q.nt ⟨.bl false, H, I, rfl, hq⟩
/-! ### len(set(xs)) for any ints -/
def distinct (ns : List Int) : Nat := (firstMet (fun i => ns.getD i 0) ns.length).length
theorem distinct_nodup {ns : List Int} (h : ns.Nodup) : distinct ns = ns.length := by
  unfold distinct
  rw [firstMet_nodup ns h ns.length (Nat.le_refl _), List.take_length]
theorem distinct_two {x : Int} : distinct [x, x] = 1 := by
  simp [distinct, firstMet, step_dedup, List.range_succ]
def tLenSetD (K : PySem.W.Frag) (ta : TE) : TE := fun σ H Q => ta σ H fun x H1 => ∃ (l : Addr) (ns : List Int), x = V.ref l ∧ SqL K H1 l (ns.map V.int) ∧ ns.length < 64 ∧ Q (.int (distinct ns)) H1
theorem pe_lenSetD {a : Expr} {ta : TE} {p p2 q pos : Pos} (hc : X.calm = true) (hg : Gl X "len") (hm : X.mg "len" = none) (hg2 : Gl X "set") (hm2 : X.mg "set" = none) (ha : PE X a ta)
    (na : starEach [a] X.env = (false, eval a X.env) :: starEach [] X.env := by rfl) : PE X (.Call (.Name "len" p) [.Call (.Name "set" p2) [a] [] q] [] pos) (tLenSetD X.K ta) := by
  refine ⟨fun pins s σ H Q I h => ?_⟩
  refine Call_ (ld_blt I hg hm PySem.boot_len ?_)
  refine PyProof.Rows.callWith_builtin1 (PyProof.Rows.args_cons ?_ rfl) rfl rfl
  refine Call_ (ld_blt I hg2 hm2 PyProof.Rows.boot_set ?_)
  refine PyProof.Rows.callWith_type1 (PyProof.Rows.args_cons (thn (ha.run pins s σ H _ I h) fun v s1 ⟨x, H1, I1, r1, q1⟩ => PyProof.Rows.args_nil ?_) na) na rfl
  obtain ⟨l, ns, rfl, hq, h1, q1⟩ := q1
  cases r1
  obtain ⟨its, r, pl, hz⟩ := I1.list hq
  have hl : its.toArray.size = ns.length := by rw [List.size_toArray, ← r.length, List.length_map]
  refine call_set_list (I1.ok.hd hc) pl.isList (ns := ns) (by simpa using r.ints) (by unfold scanBound; omega) fun h' tk hS hk => ?_
  rw [hl] at hS
  refine PyProof.Rows.args_nil ?_
  obtain ⟨o, es, ep, t, ho, hex, hd, _, _, _, hf, hn⟩ := hS
  have I2 : Inv X pins σ H1 { s1 with heap := h', toks := tk } := I1.kept fun b o e => hk b o (Heap.lt_size e) e
  have dl : (firstMet (fun i => ns.getD i 0) ns.length).length < 64 := Nat.lt_of_le_of_lt (firstMet_length_le _ _) h1
  refine call_len_set ho hex hd hf (by rw [hn] <;> omega) ⟨.int (distinct ns), H1, I2.tok _, ⟨_, by rw [hn]; rfl⟩, q1⟩
end
theorem for_enum {K : PySem.W.Frag} {a : Addr} {xs : List V} {g : TG} {tb : TS} {D : Ends} {σ : St} {H : Hp} (Pv : Nat → St → Hp → Prop) (h0 : Pv 0 σ H) (hl : ∀ i σ H, i ≤ xs.length → Pv i σ H → SqL K H a xs)
    (hs : ∀ (i : Nat) x T σ H, xs[i]? = some x → Pv i σ H → H T = none → g (.ref T) σ (upd H T (.tup [.int i, x])) fun σ2 H2 => tb { D with nx := Pv (i + 1), ct := Pv (i + 1), bk := D.nx } σ2 H2) (hd : ∀ σ H, Pv xs.length σ H → D.nx σ H) :
    ∃ W : Nat → Nat → St → Hp → Prop, (∃ m, W 0 m σ H) ∧ ∀ i m σ H, W i m σ H →
      ((Ite K a).stop i H ∧ D.nx σ H) ∨ ((Ite K a).go i H ∧ ∃ N : St → Hp → Prop, (∀ σ' H', N σ' H' → ∃ m', m' < m ∧ W (i + 1) m' σ' H') ∧ ∀ x H', (Ite K a).yld i H x H' → g x σ H' fun σ2 H2 => tb { D with nx := N, ct := N, bk := D.nx } σ2 H2) := by
  refine ⟨fun i m σ H => m = xs.length - i ∧ i ≤ xs.length ∧ Pv i σ H, ⟨xs.length, by simp, Nat.zero_le _, h0⟩, ?_⟩
  rintro i m σ H ⟨rfl, hi, p⟩
  have q := hl i σ H hi p
  by_cases hlt : i < xs.length
  · refine .inr ⟨⟨xs, xs[i], q, by simp [hlt]⟩, Pv (i + 1), fun σ' H' p' => ⟨xs.length - (i + 1), by omega, rfl, hlt, p'⟩, fun x H' y => ?_⟩
    obtain ⟨T, v, rfl, n, rfl, y⟩ := y
    exact hs i v T σ H (y xs q) p n
  · have e : i = xs.length := by omega
    subst e
    exact .inl ⟨⟨xs, q, Nat.le_refl _⟩, hd σ H p⟩
end L2

set_option Elab.async false
set_option linter.all false
set_option maxRecDepth 100000
set_option maxHeartbeats 4000000


namespace Mine
open PySem PySem.Spec PyProof.Rows L2
def topS (i : Nat) : Stmt := PySem.Challenge.pw_deadbeat_k20_contents_of_caches.main.body.getD i (.Pass ⟨0, 0, 0, 0⟩)
abbrev s_decimal : Stmt := topS 4
theorem sc_decimal : FnScope ["n", "pieces", "rest", "low"] ["n"] (defScope s_decimal) := ⟨rfl, rfl, rfl, by decide +kernel, rfl, by decide +kernel, by decide +kernel⟩
abbrev s__law_start : Stmt := topS 15
theorem sc__law_start : FnScope ["script", "seed", "cell"] ["script"] (defScope s__law_start) := ⟨rfl, rfl, rfl, by decide +kernel, rfl, by decide +kernel, by decide +kernel⟩
abbrev s__law_draw : Stmt := topS 16
theorem sc__law_draw : FnScope ["state", "many", "found"] ["state", "many"] (defScope s__law_draw) := ⟨rfl, rfl, rfl, by decide +kernel, rfl, by decide +kernel, by decide +kernel⟩
abbrev s_Cache_init : Stmt := inClass (topS 13) 0
theorem sc_Cache_init : FnScope ["self", "sets", "ways", "size", "_"] ["self", "sets", "ways", "size"] (defScope s_Cache_init) := ⟨rfl, rfl, rfl, by decide +kernel, rfl, by decide +kernel, by decide +kernel⟩
abbrev s_Cache_fits : Stmt := inClass (topS 13) 2
theorem sc_Cache_fits : FnScope ["self", "number", "lines", "line"] ["self", "number", "lines"] (defScope s_Cache_fits) := ⟨rfl, rfl, rfl, by decide +kernel, rfl, by decide +kernel, by decide +kernel⟩
abbrev s_Cache_fill : Stmt := inClass (topS 13) 1
theorem sc_Cache_fill : FnScope ["self", "rows", "number", "lines"] ["self", "rows"] (defScope s_Cache_fill) := ⟨rfl, rfl, rfl, by decide +kernel, rfl, by decide +kernel, by decide +kernel⟩
abbrev s_Cache_holds : Stmt := inClass (topS 13) 3
theorem sc_Cache_holds : FnScope ["self", "address", "line"] ["self", "address"] (defScope s_Cache_holds) := ⟨rfl, rfl, rfl, by decide +kernel, rfl, by decide +kernel, by decide +kernel⟩
abbrev s__law_made : Stmt := topS 17
theorem sc__law_made : FnScope ["sets", "ways", "size", "e"] ["sets", "ways", "size"] (defScope s__law_made) := ⟨rfl, rfl, rfl, by decide +kernel, rfl, by decide +kernel, by decide +kernel⟩
abbrev s__law_valid : Stmt := topS 18
theorem sc__law_valid : FnScope ["state", "sets", "ways", "rows", "at", "row", "k", "line"] ["state", "sets", "ways"] (defScope s__law_valid) := ⟨rfl, rfl, rfl, by decide +kernel, rfl, by decide +kernel, by decide +kernel⟩
abbrev s__law_spoilt : Stmt := topS 19
theorem sc__law_spoilt : FnScope ["state", "rows", "ways", "sets", "at", "copy", "row", "turn", "k"] ["state", "rows", "ways"] (defScope s__law_spoilt) := ⟨rfl, rfl, rfl, by decide +kernel, rfl, by decide +kernel, by decide +kernel⟩
abbrev s__law_refused : Stmt := topS 20
theorem sc__law_refused : FnScope ["cache", "rows", "e"] ["cache", "rows"] (defScope s__law_refused) := ⟨rfl, rfl, rfl, by decide +kernel, rfl, by decide +kernel, by decide +kernel⟩
abbrev s_law : Stmt := topS 21
theorem sc_law : FnScope ["script", "state", "sets", "ways", "size", "cache", "fitting", "at", "rows", "given", "row", "other", "address", "told"] ["script"] (defScope s_law) := ⟨rfl, rfl, rfl, by decide +kernel, rfl, by decide +kernel, by decide +kernel⟩
def parts_PlanError : List Expr := [(PySem.Expr.Constant (PySem.Const.str "value ") 0 ⟨23, 27, 23, 33⟩), (PySem.Expr.FormattedValue (value := (PySem.Expr.Call (func := (PySem.Expr.Name "decimal" ⟨23, 34, 23, 41⟩)) (args := [(PySem.Expr.Name "at" ⟨23, 42, 23, 44⟩)]) (keywords := []) (pos := ⟨23, 34, 23, 45⟩))) (conversion := (-1)) (format_spec := none) (pos := ⟨23, 33, 23, 46⟩))]
theorem fo_PlanError : PySem.Errs.FldOk "at" [("decimal", .globalImplicit)] parts_PlanError ⟨23, 25, 23, 47⟩ := ⟨rfl, rfl, rfl, rfl, rfl, (by decide), fun _ _ => rfl, fun _ _ => rfl, fun _ => rfl, fun _ _ _ _ _ _ _ _ _ _ _ _ _ => .of_eq rfl⟩
structure Top (P : Program) (K : PySem.W.Frag) (mg : Str → Option Value) where
  C_PlanError : Addr
  gc_PlanError : mg "PlanError" = some (.ref C_PlanError)
  C_Cache : Addr
  gc_Cache : mg "Cache" = some (.ref C_Cache)
  C_DeadbeatError : Addr
  gc_DeadbeatError : mg "DeadbeatError" = some (.ref C_DeadbeatError)
  f_PlanError : Addr
  x_PlanError : PySem.Errs.ErrTxt P K mg "PlanError" "at" [("decimal", .globalImplicit)] parts_PlanError ⟨23, 25, 23, 47⟩ C_PlanError f_PlanError
  xd_PlanError : ExcD K C_PlanError
  xf_PlanError : XfC K C_PlanError
  kt_PlanError_DeadbeatError : PySem.W.kitOne K (.ref C_PlanError) (.ref C_DeadbeatError) = some true
  cl_Cache : Cls K C_Cache
  eq_Cache : ClsEq K C_Cache
  n_Cache_rows : NoAttr K C_Cache "rows"
  n_Cache_sets : NoAttr K C_Cache "sets"
  n_Cache_size : NoAttr K C_Cache "size"
  n_Cache_ways : NoAttr K C_Cache "ways"
  a_decimal : Addr
  d_decimal : FuncData
  F_decimal : Fun K "decimal" "decimal" s_decimal a_decimal d_decimal
  g_decimal : mg "decimal" = some (.ref a_decimal)
  b_decimal : Binds K d_decimal ["n"] []
  a__law_start : Addr
  d__law_start : FuncData
  F__law_start : Fun K "_law_start" "_law_start" s__law_start a__law_start d__law_start
  g__law_start : mg "_law_start" = some (.ref a__law_start)
  b__law_start : Binds K d__law_start ["script"] []
  a__law_draw : Addr
  d__law_draw : FuncData
  F__law_draw : Fun K "_law_draw" "_law_draw" s__law_draw a__law_draw d__law_draw
  g__law_draw : mg "_law_draw" = some (.ref a__law_draw)
  b__law_draw : Binds K d__law_draw ["state", "many"] []
  a_Cache_init : Addr
  d_Cache_init : FuncData
  F_Cache_init : Fun K "__init__" "Cache.__init__" s_Cache_init a_Cache_init d_Cache_init
  M_Cache : Mk K C_Cache a_Cache_init
  b_Cache_init : Binds K d_Cache_init ["self", "sets", "ways", "size"] []
  a_Cache_fits : Addr
  d_Cache_fits : FuncData
  F_Cache_fits : Fun K "fits" "Cache.fits" s_Cache_fits a_Cache_fits d_Cache_fits
  m_Cache_fits : Meth K C_Cache "fits" a_Cache_fits
  b_Cache_fits : Binds K d_Cache_fits ["self", "number", "lines"] []
  a_Cache_fill : Addr
  d_Cache_fill : FuncData
  F_Cache_fill : Fun K "fill" "Cache.fill" s_Cache_fill a_Cache_fill d_Cache_fill
  m_Cache_fill : Meth K C_Cache "fill" a_Cache_fill
  b_Cache_fill : Binds K d_Cache_fill ["self", "rows"] []
  a_Cache_holds : Addr
  d_Cache_holds : FuncData
  F_Cache_holds : Fun K "holds" "Cache.holds" s_Cache_holds a_Cache_holds d_Cache_holds
  m_Cache_holds : Meth K C_Cache "holds" a_Cache_holds
  b_Cache_holds : Binds K d_Cache_holds ["self", "address"] []
  a__law_made : Addr
  d__law_made : FuncData
  F__law_made : Fun K "_law_made" "_law_made" s__law_made a__law_made d__law_made
  g__law_made : mg "_law_made" = some (.ref a__law_made)
  b__law_made : Binds K d__law_made ["sets", "ways", "size"] []
  a__law_valid : Addr
  d__law_valid : FuncData
  F__law_valid : Fun K "_law_valid" "_law_valid" s__law_valid a__law_valid d__law_valid
  g__law_valid : mg "_law_valid" = some (.ref a__law_valid)
  b__law_valid : Binds K d__law_valid ["state", "sets", "ways"] []
  a__law_spoilt : Addr
  d__law_spoilt : FuncData
  F__law_spoilt : Fun K "_law_spoilt" "_law_spoilt" s__law_spoilt a__law_spoilt d__law_spoilt
  g__law_spoilt : mg "_law_spoilt" = some (.ref a__law_spoilt)
  b__law_spoilt : Binds K d__law_spoilt ["state", "rows", "ways"] []
  a__law_refused : Addr
  d__law_refused : FuncData
  F__law_refused : Fun K "_law_refused" "_law_refused" s__law_refused a__law_refused d__law_refused
  g__law_refused : mg "_law_refused" = some (.ref a__law_refused)
  b__law_refused : Binds K d__law_refused ["cache", "rows"] []
  a_law : Addr
  d_law : FuncData
  F_law : Fun K "law" "law" s_law a_law d_law
  g_law : mg "law" = some (.ref a_law)
  b_law : Binds K d_law ["script"] []
  m_str : mg "str" = none
  m_divmod : mg "divmod" = none
  m_abs : mg "abs" = none
  m_list : mg "list" = none
  m_int : mg "int" = none
  m_len : mg "len" = none
  m_range : mg "range" = none
  m_all : mg "all" = none
  m_set : mg "set" = none
  m_enumerate : mg "enumerate" = none
  m_isinstance : mg "isinstance" = none
  m_bool : mg "bool" = none
  t_PIECE : Tok
  c_PIECE : mg "PIECE" = some (.int 1000000000000000000 t_PIECE)
  t_PIECE_DIGITS : Tok
  c_PIECE_DIGITS : mg "PIECE_DIGITS" = some (.int 18 t_PIECE_DIGITS)
  p_LINE_SIZES : Addr
  c_LINE_SIZES : mg "LINE_SIZES" = some (.ref p_LINE_SIZES)
  l_LINE_SIZES : ∃ o, K.lookup p_LINE_SIZES = some o ∧ o.cls = .type "tuple" ∧ o.dict = none
  q_LINE_SIZES : ∀ H, SqT K H p_LINE_SIZES [.int (1), .int (2), .int (4), .int (8), .int (16)]
  t_MOST_WAYS : Tok
  c_MOST_WAYS : mg "MOST_WAYS" = some (.int 4 t_MOST_WAYS)
  t_MOST_SETS : Tok
  c_MOST_SETS : mg "MOST_SETS" = some (.int 64 t_MOST_SETS)
  t_GREATEST_LINE : Tok
  c_GREATEST_LINE : mg "GREATEST_LINE" = some (.int 16383 t_GREATEST_LINE)
/-- the state of the law's draws: the list at p, the cells' copy at c -/
def StOk (H : Hp) (p c : Addr) : Prop := ∃ (ms : List Int) (k : Nat) (v sd : Int), p ≠ c ∧ H p = some (.lst [.ref c, .int k, .int v, .int sd]) ∧ H c = some (.lst (ms.map V.int)) ∧ ms.length ≤ 63 ∧ 0 ≤ v ∧ 0 ≤ sd ∧ sd ≤ 2147483647
/-- all but the object at p is as it was -/
def Keep (p : Addr) (H H' : Hp) : Prop := ∀ b o, b ≠ p → H b = some o → H' b = some o
theorem Keep.refl (p : Addr) (H : Hp) : Keep p H H := fun _ _ _ h => h
theorem Keep.trans {p : Addr} {H H1 H2 : Hp} (a : Keep p H H1) (b : Keep p H1 H2) : Keep p H H2 := fun x o h1 h => b x o h1 (a x o h1 h)
theorem Keep.same {p : Addr} {H H1 : Hp} (a : Same H H1) : Keep p H H1 := fun x o _ h => a x o h
theorem Keep.at {p : Addr} {H : Hp} {o : HO} : Keep p H (upd H p o) := fun x u h1 h => by
  rw [upd_ne h1]
  exact h
theorem StOk.same {H H' : Hp} {p c : Addr} (s : StOk H p c) (e : Same H H') : StOk H' p c := by
  obtain ⟨ms, k, v, sd, h1, h2, h3, h⟩ := s
  exact ⟨ms, k, v, sd, h1, e _ _ h2, e _ _ h3, h⟩
theorem StOk.ne {H : Hp} {p c l : Addr} (s : StOk H p c) (h : H l = Option.none) : l ≠ p ∧ l ≠ c := by
  obtain ⟨ms, k, v, sd, h1, h2, h3, _⟩ := s
  exact ⟨fun z => (by rw [z, h2] at h; cases h), fun z => (by rw [z, h3] at h; cases h)⟩
/-- an address that is free behind was free before -/
theorem Keep.free {p c : Addr} {H H' : Hp} (k : Keep p H H') (s : StOk H' p c) {l : Addr} (h : H' l = Option.none) : H l = Option.none := by
  cases e : H l with
  | none => rfl
  | some o =>
    rw [k l o (s.ne h).1 e] at h
    cases h
def absI (n : Int) : Int := if n < 0 then -n else n
theorem abs_nn (n : Int) : 0 ≤ absI n := by
  unfold absI
  split <;> omega
section
variable {P : Program} {w : World} {K : PySem.W.Frag} {mg : Str → Option Value} {base : Heap}
def sp__law_start (K : PySem.W.Frag) : Sp := fun vs H Q _ => ∃ (a : Addr) (ns : List Int), vs = [.ref a] ∧ SqL K H a (ns.map V.int) ∧ ns.length ≤ 63 ∧ ∀ (H' : Hp) (p c : Addr), Same H H' → H p = none → H c = none → StOk H' p c → Q (.ref p) H'
theorem ok__law_start (T : Top P K mg) : FnOk P w K mg base CX0 1 T.a__law_start T.d__law_start ["script"]  (sp__law_start K) := by
  refine T.F__law_start.ok sc__law_start (fun vs H Q E h => ?_) (fun cdv A outer s H vs Q E hr h => ?_)
  · obtain ⟨_, _, rfl, _⟩ := h
    rfl
  · obtain ⟨a, ns, rfl, hS, hlen, q⟩ := h
    refine ⟨_, (pss_cons (ps_set (i := 1) sc__law_start.nd rfl (by first | exact Or.inl rfl | exact Or.inr rfl) pe_int)
  (pss_cons (ps_for PassesOwn.never rfl (pi_list (pv 0)) (pg_name (i := 2) sc__law_start.nd rfl (by first | exact Or.inl rfl | exact Or.inr rfl))
  (pss_one (ps_set (i := 1) sc__law_start.nd rfl (by first | exact Or.inl rfl | exact Or.inr rfl) (pe_op op_mod (pe_callTy call_int1 (by rfl) T.m_int (by decide +kernel) (pa_cons (pe_op op_add (pe_op op_mul (pv 1) pe_int) (pv 2)) pa_nil)) pe_int))))
  (pss_one (ps_ret (pe_lst (pa_cons (pe_callTy call_list_of (by rfl) T.m_list (by decide +kernel) (pa_cons (pv 0) pa_nil)) (pa_cons pe_int (pa_cons pe_int (pa_cons (pe_op op_add (pv 1) pe_int) pa_nil))))))))), ?_⟩
    refine ⟨_, rfl, a, rfl, ⟨_, hS⟩, for_list (xs := ns.map V.int) (fun i σ H' => ∃ sd y2, σ = [some (.ref a), some (.int sd), y2] ∧ H' = H ∧ 0 ≤ sd ∧ sd < 1000003) ⟨7, none, rfl, rfl, by decide, by decide⟩ (fun i σ H' _ ⟨_, _, _, e, _⟩ => by rw [e]; exact hS) ?_ ?_⟩
    · rintro i x σ H' hi ⟨sd, y2, rfl, rfl, h0, h1⟩
      obtain ⟨n, _, rfl⟩ := List.mem_map.mp (List.mem_of_getElem? hi)
      refine ⟨_, rfl, _, _, rfl, rfl, .inl ⟨by omega, by omega⟩, _, rfl, _, _, rfl, rfl, .inl ⟨_, rfl, _, _, rfl, rfl, (by show (0 : Int) < 1000003; decide), ?_⟩⟩
      exact ⟨_, _, rfl, rfl, Int.emod_nonneg _ (by decide), Int.emod_lt_of_pos _ (by decide)⟩
    · rintro σ H' ⟨sd, y2, rfl, rfl, h0, h1⟩
      refine ⟨_, rfl, a, _, rfl, .inl hS, fun c hc => ?_⟩
      refine ⟨_, rfl, _, _, rfl, rfl, (by show 4 ≤ sizeLine; decide), fun p hp => ?_⟩
      have npc : p ≠ c := fun z => by rw [z, upd_same] at hp; cases hp
      refine q _ p c ((same_new hc).trans (same_new hp)) ((same_new hc).free hp) hc ⟨ns, 0, 0, sd + 1, npc, upd_same, ?_, hlen, by decide, by omega, by omega⟩
      rw [upd_ne npc.symm, upd_same]
      all_goals rfl
theorem ix4 {n : Nat} {i : Int} {j : Nat} (e : i = (j : Int)) (h : j < n) : ixN n i = some j := by
  subst e
  unfold ixN
  rw [if_pos (by omega), if_pos (by omega)]
  rfl
def sp__law_draw : Sp := fun vs H Q _ => ∃ (p c : Addr) (many : Int), vs = [.ref p, .int many] ∧ StOk H p c ∧ 0 < many ∧ many ≤ 1099511627775 ∧ ∀ (v : Int) (H' : Hp), 0 ≤ v → v < many → StOk H' p c → Keep p H H' → Q (.int v) H'
theorem ok__law_draw (T : Top P K mg) : FnOk P w K mg base CX0 1 T.a__law_draw T.d__law_draw ["state", "many"]  sp__law_draw := by
  refine T.F__law_draw.ok sc__law_draw (fun vs H Q E h => ?_) (fun cdv A outer s H vs Q E hr h => ?_)
  · obtain ⟨_, _, _, rfl, _⟩ := h
    rfl
  · obtain ⟨p, c, many, rfl, hst, hm0, hm1, q⟩ := h
    obtain ⟨ms, k, v, sd, npc, hp, hc, hl, v0, s0, s1⟩ := hst
    refine ⟨_, (pss_cons (ps_if (pt_cmpR op_eq (pe_ix ix_list (pv 0) pe_int (fun _ _ => rfl)) pe_int (nomark _))
  (pss_cons (ps_if (pt_cmpR op_lt (pe_ix ix_list (pv 0) pe_int (fun _ _ => rfl)) (pe_callB call_len_seq (by rfl) T.m_len PySem.boot_len (pa_cons (pe_ix ix_list (pv 0) pe_int (fun _ _ => rfl)) pa_nil)) (nomark _))
  (pss_one (ps_asg (pe_callB call_abs (by rfl) T.m_abs (by decide +kernel) (pa_cons (pe_ix ix_list (pe_ix ix_list (pv 0) pe_int (fun _ _ => rfl)) (pe_ix ix_list (pv 0) pe_int (fun _ _ => rfl)) (fun _ _ => rfl)) pa_nil)) (pg_sub (pv 0) pe_int set_list)))
  (pss_cons (ps_asg (pe_op op_mod (pe_callTy call_int1 (by rfl) T.m_int (by decide +kernel) (pa_cons (pe_op op_add (pe_op op_mul (pe_ix ix_list (pv 0) pe_int (fun _ _ => rfl)) pe_int) pe_int) pa_nil)) pe_int) (pg_sub (pv 0) pe_int set_list))
  (pss_one (ps_asg (pe_op op_fdivW (pe_callTy call_int1 (by rfl) T.m_int (by decide +kernel) (pa_cons (pe_ix ix_list (pv 0) pe_int (fun _ _ => rfl)) pa_nil)) pe_int) (pg_sub (pv 0) pe_int set_list)))))
  (pss_one (ps_asg (pe_op op_add (pe_ix ix_list (pv 0) pe_int (fun _ _ => rfl)) pe_int) (pg_sub (pv 0) pe_int set_list))))
  pss_nil)
  (pss_cons (ps_set (i := 2) sc__law_draw.nd rfl (by first | exact Or.inl rfl | exact Or.inr rfl) (pe_op op_mod (pe_callTy call_int1 (by rfl) T.m_int (by decide +kernel) (pa_cons (pe_ix ix_list (pv 0) pe_int (fun _ _ => rfl)) pa_nil)) (pv 1)))
  (pss_cons (ps_asg (pe_op op_fdivW (pe_callTy call_int1 (by rfl) T.m_int (by decide +kernel) (pa_cons (pe_ix ix_list (pv 0) pe_int (fun _ _ => rfl)) pa_nil)) (pv 1)) (pg_sub (pv 0) pe_int set_list))
  (pss_one (ps_ret (pv 2)))))), ?_⟩
    have fin : ∀ (k' : Nat) (v' sd' : Int) (H' : Hp), H' = upd H p (.lst [.ref c, .int k', .int v', .int sd']) → 0 ≤ v' → 0 ≤ sd' → sd' ≤ 2147483647 → Q (.int (v' % many)) (upd H' p (.lst [.ref c, .int k', .int (v' / many), .int sd'])) := fun k' v' sd' H' e hv h0 h1 => by
      subst e
      refine q _ _ (Int.emod_nonneg _ (by omega)) (Int.emod_lt_of_pos _ hm0) ⟨ms, k', v' / many, sd', npc, upd_same, ?_, hl, Int.ediv_nonneg hv (by omega), h0, h1⟩ ?_
      · rw [upd_ne npc.symm, upd_ne npc.symm]
        exact hc
      · exact Keep.at.trans Keep.at
    have hw : many.natAbs < 2 ^ 40 := by omega
    refine ⟨_, rfl, p, _, 2, .int v, rfl, rfl, SqL.of hp, atI_nat (j := 2) rfl, rfl, _, rfl, ite2 (fun cc => ?_) (fun cc => ?_)⟩
    · -- the next cell, or a mixed one
      have key : ∀ (v2 sd2 : Int) (H2 : Hp), H2 = upd H p (.lst [.ref c, .int k, .int v2, .int sd2]) → 0 ≤ v2 → 0 ≤ sd2 → sd2 ≤ 2147483647 → _ := fun v2 sd2 H2 e hv h0 h1 => fin (k + 1) v2 sd2 (upd H2 p (.lst [.ref c, .int ((k + 1 : Nat) : Int), .int v2, .int sd2])) (by rw [e, upd_upd]) hv h0 h1
      refine ⟨_, rfl, p, _, 1, .int k, rfl, rfl, SqL.of hp, atI_nat (j := 1) rfl, _, rfl, p, _, 0, .ref c, rfl, rfl, SqL.of hp, atI_nat (j := 0) rfl, c, _, rfl, .inl (SqL.of hc), _, _, rfl, rfl, _, rfl, ite2 (fun c2 => ?_) (fun c2 => ?_)⟩
      · have hk : k < ms.length := by
          have := of_decide_eq_true c2
          rw [List.length_map] at this
          omega
        obtain ⟨m, hm⟩ : ∃ m, ms[k]? = some m := ⟨_, List.getElem?_eq_getElem hk⟩
        refine ⟨_, rfl, p, _, 0, .ref c, rfl, rfl, SqL.of hp, atI_nat (j := 0) rfl, _, rfl, p, _, 1, .int k, rfl, rfl, SqL.of hp, atI_nat (j := 1) rfl, c, _, k, .int m, rfl, rfl, SqL.of hc, atI_nat (j := k) (by rw [List.getElem?_map, hm]; rfl), _, rfl, ?_⟩
        refine ⟨_, rfl, p, _, 2, 2, rfl, rfl, hp, rfl, ?_⟩
        refine ⟨_, rfl, p, _, 1, .int k, rfl, rfl, SqL.of upd_same, atI_nat (j := 1) rfl, _, _, rfl, rfl, _, rfl, p, _, 1, 1, rfl, rfl, upd_same, rfl, ?_⟩
        refine ⟨_, rfl, p, _, 2, .int (absI m), rfl, rfl, SqL.of upd_same, atI_nat (j := 2) rfl, .inl ⟨_, rfl, _, rfl, _, _, rfl, rfl, hm0, ?_⟩⟩
        refine ⟨_, rfl, p, _, 2, .int (absI m), rfl, rfl, SqL.of upd_same, atI_nat (j := 2) rfl, .inl ⟨_, rfl, _, rfl, _, _, rfl, rfl, wide_div hm0 hw (by decide) (by decide), _, rfl, p, _, 2, 2, rfl, rfl, upd_same, rfl, ?_⟩⟩
        exact ⟨_, rfl, key (absI m) sd _ rfl (abs_nn m) s0 s1⟩
      · have m0 := Int.emod_nonneg (sd * 48271 + 12345) (show (2147483647 : Int) ≠ 0 by decide)
        have m1 := Int.emod_lt_of_pos (sd * 48271 + 12345) (show (0 : Int) < 2147483647 by decide)
        refine ⟨_, rfl, p, _, 3, .int sd, rfl, rfl, SqL.of hp, atI_nat (j := 3) rfl, _, _, rfl, rfl, .inl ⟨by omega, by omega⟩, _, _, rfl, rfl, .inl ⟨_, rfl, _, _, rfl, rfl, (by show (0 : Int) < 2147483647; decide), ?_⟩⟩
        refine ⟨_, rfl, p, _, 3, 3, rfl, rfl, hp, rfl, ?_⟩
        refine ⟨_, rfl, p, _, 3, .int ((sd * 48271 + 12345) % 2147483647), rfl, rfl, SqL.of upd_same, atI_nat (j := 3) rfl, .inl ⟨_, rfl, _, _, rfl, rfl, wide_div (b := 10) (by decide) (by decide) (by decide) (by decide), _, rfl, p, _, 2, 2, rfl, rfl, upd_same, rfl, ?_⟩⟩
        refine ⟨_, rfl, p, _, 1, .int k, rfl, rfl, SqL.of upd_same, atI_nat (j := 1) rfl, _, _, rfl, rfl, _, rfl, p, _, 1, 1, rfl, rfl, upd_same, rfl, ?_⟩
        refine ⟨_, rfl, p, _, 2, .int ((sd * 48271 + 12345) % 2147483647 / 64), rfl, rfl, SqL.of upd_same, atI_nat (j := 2) rfl, .inl ⟨_, rfl, _, rfl, _, _, rfl, rfl, hm0, ?_⟩⟩
        refine ⟨_, rfl, p, _, 2, .int ((sd * 48271 + 12345) % 2147483647 / 64), rfl, rfl, SqL.of upd_same, atI_nat (j := 2) rfl, .inl ⟨_, rfl, _, rfl, _, _, rfl, rfl, wide_div hm0 hw (by decide) (by decide), _, rfl, p, _, 2, 2, rfl, rfl, upd_same, rfl, ?_⟩⟩
        exact ⟨_, rfl, key ((sd * 48271 + 12345) % 2147483647 / 64) ((sd * 48271 + 12345) % 2147483647) _ (by rw [upd_upd]; rfl) (Int.ediv_nonneg m0 (by decide)) m0 (by omega)⟩
    · refine ⟨_, rfl, p, _, 2, .int v, rfl, rfl, SqL.of hp, atI_nat (j := 2) rfl, .inl ⟨_, rfl, _, rfl, _, _, rfl, rfl, hm0, ?_⟩⟩
      refine ⟨_, rfl, p, _, 2, .int v, rfl, rfl, SqL.of hp, atI_nat (j := 2) rfl, .inl ⟨_, rfl, _, rfl, _, _, rfl, rfl, wide_div hm0 hw (by decide) (by decide), _, rfl, p, _, 2, 2, rfl, rfl, hp, rfl, ?_⟩⟩
      have := fin k v sd H (upd_self hp).symm v0 s0 s1
      exact ⟨_, rfl, this⟩
end

theorem bits_lt {n : Int} (h : Builtin.Int.intBits n ≤ 1048576) : n.natAbs < 2 ^ 1048576 := by
  unfold Builtin.Int.intBits at h
  by_cases e : n = 0
  · subst e; exact Nat.pow_pos (by decide)
  · have z : (n == 0) = false := by simpa using e
    rw [z] at h
    have h2 : n.natAbs.log2 < 1048576 := h
    exact (Nat.log2_lt (by omega)).mp h2
/-! ### deadbeat.words, decimal: an integer in decimal, some digits at a time -/
theorem dec_str (m : Nat) (h : m < 1000000000000000000) : (Str.ofString (toString ((m : Nat) : Int))).length ≤ 18 := by
  rw [SX.num_S m, SX.S_len]
  exact TL.numL_len (k := 18) (by decide) (by omega)
theorem dec_log (m : Nat) (h : m < 1000000000000000000) : ((m : Int).natAbs).log2 < 1920 := by
  by_cases h0 : m = 0
  · subst h0; decide
  · have z : ((m : Int).natAbs) = m := rfl
    rw [z]
    exact Nat.lt_trans ((Nat.log2_lt h0).mpr (show m < 2 ^ 60 by omega)) (by decide)
theorem zfill_le (x : Str) (h : x.length ≤ 18) : (Txt.zfill x 18).length ≤ 18 := by
  unfold Txt.zfill
  by_cases c : (18 : Int) ≤ x.length
  · rw [if_pos c]; exact h
  · rw [if_neg c]
    unfold PySem.zfilled
    have key : ∀ c, x.cps[0]? = some c → 1 ≤ x.length := fun c hc => (Array.getElem?_eq_some_iff.mp hc).1
    split
    · rename_i hc'
      have h2 := key _ hc'
      rw [PySem.size_cat, PySem.size_padded, PySem.size_strSub x 0 1 h2, PySem.size_strSub x 1 x.length (Nat.le_refl _)]; omega
    · rename_i hc'
      have h2 := key _ hc'
      rw [PySem.size_cat, PySem.size_padded, PySem.size_strSub x 0 1 h2, PySem.size_strSub x 1 x.length (Nat.le_refl _)]; omega
    · rw [PySem.size_padded]; omega
/-- the pieces so far: some short texts, what is left of n -/
structure DecInv (n : Int) (ps : List Str) (r : Int) : Prop where
  r0 : 0 ≤ r
  pos : ps = [] ∧ r = n.natAbs ∨ 1 ≤ r ∧ 1000000000000000000 ≤ n.natAbs
  le : r.toNat * (1000000000000000000 : Nat) ^ ps.length ≤ n.natAbs
  short : ∀ p ∈ ps, p.length ≤ 18
theorem dec_count {n : Int} {ps : List Str} {r : Int} (d : DecInv n ps r) (h : n.natAbs < 2 ^ 1048576) : ps.length ≤ 20000 := by
  rcases d.pos with ⟨e, _⟩ | e
  · rw [e]; exact Nat.zero_le _
  · have h1 : 1 ≤ r.toNat := by omega
    have h2 : (2 ^ 59 : Nat) ^ ps.length ≤ n.natAbs :=
      Nat.le_trans (Nat.pow_le_pow_left (show (2 ^ 59 : Nat) ≤ 1000000000000000000 by decide) _) (Nat.le_trans (Nat.le_mul_of_pos_left _ h1) d.le)
    rw [← Nat.pow_mul] at h2
    have h3 : 59 * ps.length < 1048576 := (Nat.pow_lt_pow_iff_right (by decide : 1 < 2)).mp (Nat.lt_of_le_of_lt h2 h)
    omega
theorem sum_short {ps : List Str} (h : ∀ p ∈ ps, p.length ≤ 18) : (ps.map (·.length)).sum ≤ 18 * ps.length := by
  induction ps with
  | nil => simp
  | cons a r ih =>
    have h1 := h a (by simp)
    have h2 := ih fun p hp => h p (by simp [hp])
    simp only [List.map_cons, List.sum_cons, List.length_cons]
    omega
section
variable {P : Program} {w : World} {K : PySem.W.Frag} {mg : Str → Option Value} {base : Heap}
def sp_decimal : Sp := fun vs H Q _ => ∃ n : Int, vs = [.int n] ∧ n.natAbs < 2 ^ 1048576 ∧
  ∀ (z : Str) (H' : Hp), z.length ≤ 1000000 → (0 ≤ n → n < 1000000000000000000 → z = toString n) → Same H H' → Q (.str z) H'
theorem ok_decimal (T : Top P K mg) : FnOk P w K mg base CX0 1 T.a_decimal T.d_decimal ["n"]  sp_decimal := by
  refine T.F_decimal.ok sc_decimal (fun vs H Q E h => ?_) (fun cdv A outer s H vs Q E hr h => ?_)
  · obtain ⟨_, rfl, _⟩ := h
    rfl
  · obtain ⟨n, rfl, hn, q⟩ := h
    refine ⟨_, (pss_cons (ps_set (i := 1) sc_decimal.nd rfl (by first | exact Or.inl rfl | exact Or.inr rfl) (pe_lst pa_nil))
  (pss_cons (ps_set (i := 2) sc_decimal.nd rfl (by first | exact Or.inl rfl | exact Or.inr rfl) (pe_callB call_abs (by rfl) T.m_abs (by decide +kernel) (pa_cons (pv 0) pa_nil)))
  (pss_cons (ps_while PassesOwn.never (pt_cmpR op_ge (pv 2) (pe_gi (by rfl) T.c_PIECE) (nomark _))
  (pss_cons (ps_asg (pe_callB call_divmodW (by rfl) T.m_divmod (by decide +kernel) (pa_cons (pv 2) (pa_cons (pe_gi (by rfl) T.c_PIECE) pa_nil))) (pg_tup rfl (pgs_cons (pg_name (i := 2) sc_decimal.nd rfl (by first | exact Or.inl rfl | exact Or.inr rfl)) (pgs_cons (pg_name (i := 3) sc_decimal.nd rfl (by first | exact Or.inl rfl | exact Or.inr rfl)) pgs_nil))))
  (pss_one (ps_expr (pe_bm PySem.F.plainAttrs_list PySem.F.slot_list_append PySem.F.type_list_append mt_append (pv 1) (pa_cons (pe_bm PySem.F.plainAttrs_str PySem.F.slot_str_zfill PySem.F.type_str_zfill mt_zfill (pe_callTy call_str_int (by rfl) T.m_str (by decide +kernel) (pa_cons (pv 3) pa_nil)) (pa_cons (pe_gi (by rfl) T.c_PIECE_DIGITS) pa_nil)) pa_nil))))))
  (pss_cons (ps_expr (pe_bm PySem.F.plainAttrs_list PySem.F.slot_list_append PySem.F.type_list_append mt_append (pv 1) (pa_cons (pe_callTy call_str_int (by rfl) T.m_str (by decide +kernel) (pa_cons (pv 2) pa_nil)) pa_nil)))
  (Evl.pss_cut (ps_if (pt_cmpR op_lt (pv 0) pe_int (nomark _))
  (pss_one (ps_expr (pe_bm PySem.F.plainAttrs_list PySem.F.slot_list_append PySem.F.type_list_append mt_append (pv 1) (pa_cons pe_str pa_nil))))
  pss_nil)
  (pss_one (ps_ret (pe_bm PySem.F.plainAttrs_str PySem.F.slot_str_join PySem.F.type_str_join mt_join pe_str (pa_cons (pe_revL (pv 1)) pa_nil))))))))), ?_⟩
    refine ⟨Nat.zero_le _, fun p np => ?_⟩
    refine ⟨_, rfl, n, rfl, ?_⟩
    have ea : (if n < 0 then -n else n) = ((n.natAbs : Nat) : Int) := by split <;> omega
    show gName 2 (V.int (if n < 0 then -n else n)) _ _ _
    rw [ea]
    refine while_by (fun σ H' => ∃ (ps : List Str) (r : Int) (y : Option V), σ = [some (.int n), some (.ref p), some (.int r), y] ∧ H' p = some (.lst (ps.map V.str)) ∧ Same H H' ∧ DecInv n ps r)
      (fun σ _ => match σ with | [_, _, some (.int r), _] => r.toNat | _ => 0) ⟨[], _, none, rfl, upd_same, same_new np, ⟨by omega, .inl ⟨rfl, rfl⟩, by simp, by simp⟩⟩ ?_ ?_
    rotate_left
    · intro σ H' Q1 Q2 f h
      obtain ⟨i, h1, j, h2, a, h3, h4, h5, h6⟩ := h
      exact ⟨i, h1, j, h2, a, h3, h4, h5, f _ _ h6⟩
    · rintro σ H1 ⟨ps, r, y, rfl, hp, sm, d⟩
      have hcnt := dec_count d hn
      refine ⟨_, rfl, _, _, rfl, rfl, _, rfl, ?_⟩
      by_cases c : (1000000000000000000 : Int) ≤ r
      · rw [decide_eq_true c]
        refine iteT ?_
        refine ⟨_, rfl, _, _, rfl, ⟨by decide, PyProof.noPylong_of_log2 (by decide)⟩, fun t nt => ?_⟩
        have tp : p ≠ t := ne_of_none hp nt
        obtain ⟨lo, elo⟩ : ∃ lo : Nat, r % 1000000000000000000 = (lo : Int) := ⟨(r % 1000000000000000000).toNat, by omega⟩
        have lo1 : lo < 1000000000000000000 := by omega
        rw [elo]
        refine ⟨t, _, rfl, SqT.of upd_same, rfl, _, _, rfl, _, _, rfl, rfl, ?_⟩
        have hp' : upd H1 t (.tup [.int (r / 1000000000000000000), .int (lo : Int)]) p = some (.lst (ps.map V.str)) := by rw [upd_ne tp]; exact hp
        refine ⟨_, rfl, .inl ⟨rfl, _, SqL.of hp'⟩, _, rfl, _, rfl, dec_log lo lo1, rfl, _, _, rfl, rfl, rfl, p, _, _, rfl, rfl, hp', ?_, ?_⟩
        · rw [List.length_map, sizeLine_eq]; omega
        have z1 := zfill_le _ (dec_str lo lo1)
        refine ⟨⟨ps ++ [Txt.zfill (Str.ofString (toString ((lo : Nat) : Int))) 18], _, _, rfl, by rw [upd_same, List.map_append]; rfl, (sm.off (sm.free nt)).off np, ?_⟩, ?_⟩
        · have big : 1000000000000000000 ≤ n.natAbs := by
            have := Nat.le_trans (Nat.le_mul_of_pos_right r.toNat (Nat.pow_pos (n := ps.length) (by decide : 0 < 1000000000000000000))) d.le
            omega
          refine ⟨by omega, .inr ⟨by omega, big⟩, ?_, fun x hx => ?_⟩
          · rw [List.length_append, List.length_singleton, Nat.pow_succ, Nat.mul_comm ((1000000000000000000 : Nat) ^ ps.length), ← Nat.mul_assoc]
            refine Nat.le_trans (Nat.mul_le_mul_right _ ?_) d.le
            omega
          · rcases List.mem_append.mp hx with hx | hx
            · exact d.short x hx
            · rw [List.mem_singleton.mp hx]; exact z1
        · show (r / 1000000000000000000).toNat < r.toNat
          omega
      · rw [decide_eq_false c]
        refine iteF ?_
        have r0 := d.r0
        obtain ⟨m, rfl⟩ : ∃ m : Nat, r = (m : Int) := ⟨r.toNat, by omega⟩
        have m1 : m < 1000000000000000000 := by omega
        refine ⟨_, rfl, .inl ⟨rfl, _, SqL.of hp⟩, _, rfl, _, rfl, dec_log m m1, p, _, _, rfl, rfl, hp, ?_, ?_⟩
        · rw [List.length_map, sizeLine_eq]; omega
        obtain ⟨qs, eqs⟩ : ∃ qs : List Str, qs = ps ++ [Str.ofString (toString ((m : Nat) : Int))] := ⟨_, rfl⟩
        have hq : upd H1 p (.lst (ps.map V.str ++ [V.str (Str.ofString (toString ((m : Nat) : Int)))])) p = some (.lst (qs.map V.str)) := by rw [upd_same, eqs, List.map_append]; rfl
        have sm2 : Same H (upd H1 p (.lst (ps.map V.str ++ [V.str (Str.ofString (toString ((m : Nat) : Int)))]))) := sm.off np
        have short : ∀ x ∈ qs, x.length ≤ 18 := fun x hx => by
          rw [eqs] at hx
          rcases List.mem_append.mp hx with hx | hx
          · exact d.short x hx
          · rw [List.mem_singleton.mp hx]; exact dec_str m m1
        have cnt : qs.length ≤ 20001 := by rw [eqs, List.length_append, List.length_singleton]; omega
        refine ⟨fun σ' H2 => ∃ rs : List Str, σ' = [some (.int n), some (.ref p), some (.int (m : Int)), y] ∧ (∀ x ∈ rs, x.length ≤ 18) ∧ rs.length ≤ 20002 ∧ H2 p = some (.lst (rs.map V.str)) ∧ Same H H2 ∧ (0 ≤ n → n < 1000000000000000000 → rs = [Str.ofString (toString n)]), ?_, ?_⟩
        · refine ⟨_, rfl, _, _, rfl, rfl, _, rfl, ite2 (fun c2 => ?_) (fun c2 => ?_)⟩
          · have neg := of_decide_eq_true c2
            refine ⟨_, rfl, .inl ⟨rfl, _, SqL.of hq⟩, p, _, _, rfl, rfl, hq, ?_, ?_⟩
            · rw [List.length_map, sizeLine_eq]; omega
            · refine ⟨qs ++ [("-" : Str)], rfl, fun x hx => ?_, ?_, (by rw [upd_same, List.map_append]; rfl), sm2.off np, fun a _ => absurd neg (by omega)⟩
              · rcases List.mem_append.mp hx with hx | hx
                · exact short x hx
                · rw [List.mem_singleton.mp hx]; decide
              · rw [List.length_append]; exact Nat.succ_le_succ cnt
          · refine ⟨qs, rfl, short, (by omega), hq, sm2, fun a b => ?_⟩
            rcases d.pos with ⟨e, e2⟩ | ⟨e, e2⟩
            · have e3 : n = (m : Int) := by omega
              rw [eqs, e, e3]
              rfl
            · omega
        · rintro σ' H2 ⟨rs, rfl, hs, hl, h2, s2, hz⟩
          have sum := sum_short (ps := rs.reverse) (fun x hx => hs x (List.mem_reverse.mp hx))
          rw [List.length_reverse] at sum
          have e0 : ("" : Str).length = 0 := rfl
          refine ⟨rfl, _, rfl, p, _, rfl, SqL.of h2, fun u nu => ⟨"", u, rs.reverse, rfl, rfl, .inl (SqL.of (by rw [upd_same, List.map_reverse])), ?_, q _ _ ?_ (fun a b => ?_) (s2.trans (same_new nu))⟩⟩
          · rw [e0]; omega
          · show (PySem.Builtin.Str.glued "" rs.reverse).length ≤ _
            rw [PySem.size_glued, e0]; omega
          · rw [hz a b]
            rfl
end

/-! ### the rows -/
theorem msg_pl {P : Program} {w : World} {K : PySem.W.Frag} {mg : Str → Option Value} {base : Heap} (T : Top P K mg) {CX : CXT} {N : List Str} {qual : Str} {scope : Scope} {f : Addr} {cd : Value} {A : Around} {outer : List Env} {s : Shared} {H : Hp} {E : XK} {mp : Pos} {n : Int} (h : -1 ≤ n) (h2 : n ≤ 100000) :
    MsgV (cxOf CX P w K mg base N qual scope f cd A outer s H E) 1 [("decimal", .globalImplicit)] parts_PlanError mp "at" (.int n) :=
  have hb : n.natAbs < 2 ^ 1048576 := Nat.lt_of_le_of_lt (show n.natAbs ≤ 100000 by omega) (Nat.lt_of_lt_of_le (show 100000 < 2 ^ 17 by decide) (Nat.pow_le_pow_right (by decide) (by decide)))
  msg_dec2 (X := cxOf CX P w K mg base N qual scope f cd A outer s H E) (ok_decimal T) T.g_decimal T.F_decimal.kp T.b_decimal (fun Q E q => ⟨n, rfl, hb, fun z H' hz _ _ => q z H' hz⟩) rfl rfl (by decide) (fun _ => rfl) (by decide)
theorem and_cut {a b : Prop} [Decidable a] [Decidable b] {G : Prop} (h : ¬ (a ∧ b)) (h1 : decide a = false → G) (h2 : decide a = true → decide b = false → G) : G := by
  by_cases ha : a
  · exact h2 (decide_eq_true ha) (decide_eq_false fun hb => h ⟨ha, hb⟩)
  · exact h1 (decide_eq_false ha)
def AtOut (C : Addr) (H : Hp) (E : XK) : Prop := ∀ (n : Int) H' d, Same H H' → H d = none → H' d = some (.xd [(("at" : Str), .int n)]) → E (.ref C) (some d) H'
structure Grid (H : Hp) (R : Addr) (ls : List Addr) (rows : List (List Int)) : Prop where
  rr : H R = some (.lst (ls.map V.ref))
  nd : ls.Nodup
  len : ls.length = rows.length
  row : ∀ (i : Nat) (l : Addr) (r : List Int), ls[i]? = some l → rows[i]? = some r → H l = some (.lst (r.map V.int))
  nR : R ∉ ls
theorem Grid.same {H H' : Hp} {R : Addr} {ls : List Addr} {rows : List (List Int)} (g : Grid H R ls rows) (s : Same H H') : Grid H' R ls rows :=
  ⟨s _ _ g.rr, g.nd, g.len, fun i l r h1 h2 => s _ _ (g.row i l r h1 h2), g.nR⟩
theorem Grid.get {H : Hp} {R : Addr} {ls : List Addr} {rows : List (List Int)} (g : Grid H R ls rows) {i : Nat} {r : List Int} (h : rows[i]? = some r) : ∃ l, ls[i]? = some l ∧ H l = some (.lst (r.map V.int)) := by
  have hi : i < ls.length := by
    rw [g.len]
    exact (List.getElem?_eq_some_iff.mp h).1
  exact ⟨_, List.getElem?_eq_getElem hi, g.row i _ r (List.getElem?_eq_getElem hi) h⟩
theorem Grid.get' {H : Hp} {R : Addr} {ls : List Addr} {rows : List (List Int)} (g : Grid H R ls rows) {i : Nat} {l : Addr} (h : ls[i]? = some l) : ∃ r, rows[i]? = some r ∧ H l = some (.lst (r.map V.int)) := by
  have hi : i < rows.length := by
    rw [← g.len]
    exact (List.getElem?_eq_some_iff.mp h).1
  exact ⟨_, List.getElem?_eq_getElem hi, g.row i l _ h (List.getElem?_eq_getElem hi)⟩
/-- all its lists are new -/
def Fresh (H : Hp) (R : Addr) (ls : List Addr) : Prop := H R = none ∧ ∀ l ∈ ls, H l = none
/-! ### a copy under way -/
def CopyInv (H1 : Hp) (D : Addr) (rows : List (List Int)) (i : Nat) (H' : Hp) : Prop := ∃ ls : List Addr, ls.length = i ∧ ls.Nodup ∧ D ∉ ls ∧ (∀ l ∈ ls, H1 l = none) ∧
  (∀ (j : Nat) (l : Addr) (r : List Int), ls[j]? = some l → rows[j]? = some r → H' l = some (.lst (r.map V.int))) ∧ H' D = some (.lst (ls.map V.ref)) ∧ Same H1 H'
theorem CopyInv.zero {H1 : Hp} {D : Addr} {rows : List (List Int)} (n : H1 D = none) : CopyInv H1 D rows 0 (upd H1 D (.lst [])) :=
  ⟨[], rfl, List.nodup_nil, by simp, by simp, by simp, upd_same, same_new n⟩
theorem CopyInv.same {H1 : Hp} {D : Addr} {rows : List (List Int)} {i : Nat} {H' : Hp} (h : CopyInv H1 D rows i H') : Same H1 H' := by
  obtain ⟨_, _, _, _, _, _, _, s⟩ := h
  exact s
theorem CopyInv.step {H1 : Hp} {D : Addr} {rows : List (List Int)} {i : Nat} {H' : Hp} {m : Addr} {r : List Int} (h : CopyInv H1 D rows i H') (nD : H1 D = none) (hm : H' m = none) (hr : rows[i]? = some r) :
    ∃ ys, (upd H' m (.lst (r.map V.int))) D = some (.lst ys) ∧ ys.length = i ∧ CopyInv H1 D rows (i + 1) (upd (upd H' m (.lst (r.map V.int))) D (.lst (ys ++ [.ref m]))) := by
  obtain ⟨ls, e1, e2, e3, e4, e5, e6, e7⟩ := h
  have mD : m ≠ D := (ne_of_none e6 hm).symm
  have mH : H1 m = none := e7.free hm
  have il : i < rows.length := (List.getElem?_eq_some_iff.mp hr).1
  have mm : m ∉ ls := fun q => by
    obtain ⟨j, hj⟩ := List.getElem?_of_mem q
    have hj2 : j < rows.length := by
      have := (List.getElem?_eq_some_iff.mp hj).1
      omega
    rw [e5 j m _ hj (List.getElem?_eq_getElem hj2)] at hm
    cases hm
  refine ⟨_, by rw [upd_ne mD.symm]; exact e6, by rw [List.length_map, e1], ls ++ [m], ?_, ?_, ?_, ?_, ?_, ?_, ?_⟩
  · rw [List.length_append, e1]
    rfl
  · rw [List.nodup_append]
    exact ⟨e2, by simp, fun a ha b hb => by
      rw [List.mem_singleton] at hb
      subst hb
      exact fun z => mm (z ▸ ha)⟩
  · intro q
    rcases List.mem_append.mp q with q | q
    · exact e3 q
    · exact mD (List.mem_singleton.mp q).symm
  · intro a q
    rcases List.mem_append.mp q with q | q
    · exact e4 a q
    · rw [List.mem_singleton.mp q]
      exact mH
  · intro j a r2 ha hr2
    have aR : a ≠ D := fun z => by
      subst z
      rcases List.mem_append.mp (List.mem_of_getElem? ha) with q | q
      · exact e3 q
      · exact mD (List.mem_singleton.mp q).symm
    rw [upd_ne aR]
    rw [List.getElem?_append] at ha
    split at ha
    · have q := List.mem_of_getElem? ha
      rw [upd_ne (fun (z : a = m) => mm (z ▸ q))]
      exact e5 j a r2 ha hr2
    · rename_i hj
      have q := List.mem_singleton.mp (List.mem_of_getElem? ha)
      have ej : j - ls.length = 0 := by
        have := (List.getElem?_eq_some_iff.mp ha).1
        simp at this
        omega
      have ej2 : j = i := by omega
      subst ej2
      rw [hr] at hr2
      cases hr2
      rw [q]
      exact upd_same
  · rw [upd_same, List.map_append]
    rfl
  · intro b y e
    rw [upd_ne (ne_of_none e nD), upd_ne (ne_of_none (e7 b y e) hm)]
    exact e7 b y e
theorem CopyInv.done {H1 : Hp} {D : Addr} {rows : List (List Int)} {H' : Hp} (h : CopyInv H1 D rows rows.length H') (nD : H1 D = none) : ∃ ls, Grid H' D ls rows ∧ Fresh H1 D ls ∧ Same H1 H' := by
  obtain ⟨ls, e1, e2, e3, e4, e5, e6, e7⟩ := h
  exact ⟨ls, ⟨e6, e2, e1, e5, e3⟩, ⟨nD, e4⟩, e7⟩
/-! ### what fits -/
def fitsB (S W i : Int) (r : List Int) : Bool := !(decide ((r.length : Int) > W) || decide ((distinct r : Int) < (r.length : Int))) && r.all fun x => (decide (0 ≤ x) && decide (x ≤ 16383)) && decide (x % S = i)
/-! ### the cache -/
def cf (S W z : Int) (R : Addr) : List (Str × V) := [("sets", .int S), ("ways", .int W), ("size", .int z), ("rows", .ref R)]
theorem cf_put {S W z : Int} {R : Addr} : putF "rows" (.ref R) (putF "size" (.int z) (putF "ways" (.int W) (putF "sets" (.int S) []))) = cf S W z R := by with_unfolding_all rfl
theorem cf_rows {S W z : Int} {R R2 : Addr} : putF "rows" (.ref R2) (cf S W z R) = cf S W z R2 := by with_unfolding_all rfl
theorem cf_S {S W z : Int} {R : Addr} : (cf S W z R).lookup ("sets" : Str) = some (.int S) := by with_unfolding_all rfl
theorem cf_W {S W z : Int} {R : Addr} : (cf S W z R).lookup ("ways" : Str) = some (.int W) := by with_unfolding_all rfl
theorem cf_z {S W z : Int} {R : Addr} : (cf S W z R).lookup ("size" : Str) = some (.int z) := by with_unfolding_all rfl
theorem cf_R {S W z : Int} {R : Addr} : (cf S W z R).lookup ("rows" : Str) = some (.ref R) := by with_unfolding_all rfl
theorem cf_no {S W z : Int} {R : Addr} {m : Str} (h1 : ("sets" : Str) ≠ m := by decide) (h2 : ("ways" : Str) ≠ m := by decide) (h3 : ("size" : Str) ≠ m := by decide) (h4 : ("rows" : Str) ≠ m := by decide) : (cf S W z R).lookup m = none := by
  unfold cf
  have b1 : (m == ("sets" : Str)) = false := beq_eq_false_iff_ne.mpr h1.symm
  have b2 : (m == ("ways" : Str)) = false := beq_eq_false_iff_ne.mpr h2.symm
  have b3 : (m == ("size" : Str)) = false := beq_eq_false_iff_ne.mpr h3.symm
  have b4 : (m == ("rows" : Str)) = false := beq_eq_false_iff_ne.mpr h4.symm
  simp only [List.lookup, b1, b2, b3, b4]
/-- a cache: the object o, whose rows lie at R -/
structure CacheAt (C : Addr) (H : Hp) (o R : Addr) (ls : List Addr) (S W z : Int) (rows : List (List Int)) : Prop where
  ob : ∃ dx, H o = some (.ins C dx (cf S W z R))
  gr : Grid H R ls rows
  sets : S = rows.length
theorem CacheAt.same {C : Addr} {H H' : Hp} {o R : Addr} {ls : List Addr} {S W z : Int} {rows : List (List Int)} (c : CacheAt C H o R ls S W z rows) (s : Same H H') : CacheAt C H' o R ls S W z rows := by
  obtain ⟨⟨dx, ho⟩, g, e⟩ := c
  exact ⟨⟨dx, s _ _ ho⟩, g.same s, e⟩
/-- the sizes are in their ranges -/
structure SizesOk (S W z : Int) : Prop where
  s1 : 1 ≤ S
  s2 : S ≤ 64
  w1 : 1 ≤ W
  w2 : W ≤ 4
  zz : z = 1 ∨ z = 2 ∨ z = 4 ∨ z = 8 ∨ z = 16
theorem SizesOk.z0 {S W z : Int} (h : SizesOk S W z) : 0 < z ∧ z ≤ 16 := by
  have := h.zz
  omega
section
variable {P : Program} {w : World} {K : PySem.W.Frag} {mg : Str → Option Value} {base : Heap}
def small (n : Int) : Prop := -1 ≤ n ∧ n ≤ 1000
def sp_Cache_init (C PE : Addr) : Sp := fun vs H Q E => ∃ (o dx : Addr) (S W z : Int), vs = [.ref o, .int S, .int W, .int z] ∧ small S ∧ small W ∧ small z ∧ H o = some (.ins C dx []) ∧
  (SizesOk S W z → ∀ (H' : Hp) (R : Addr) (ls : List Addr), CacheAt C H' o R ls S W z (List.replicate S.toNat []) → (∀ b x, b ≠ o → H b = some x → H' b = some x) → Fresh H R ls → Q .non H') ∧
  (¬ SizesOk S W z → AtOut PE H E)
theorem size_in (z : Int) : inV (.int z) [.int 1, .int 2, .int 4, .int 8, .int 16] = decide (z = 1 ∨ z = 2 ∨ z = 4 ∨ z = 8 ∨ z = 16) := by
  by_cases h : z = 1 ∨ z = 2 ∨ z = 4 ∨ z = 8 ∨ z = 16
  · rw [decide_eq_true h]
    rcases h with rfl | rfl | rfl | rfl | rfl <;> decide +kernel
  · rw [decide_eq_false h]
    unfold inV
    rw [List.any_eq_false]
    intro y hy e
    simp only [List.mem_cons, List.not_mem_nil, or_false] at hy
    rcases hy with rfl | rfl | rfl | rfl | rfl
    · exact h (.inl (eq_of_beq (show (1 == z) = true from e)).symm)
    · exact h (.inr (.inl (eq_of_beq (show (2 == z) = true from e)).symm))
    · exact h (.inr (.inr (.inl (eq_of_beq (show (4 == z) = true from e)).symm)))
    · exact h (.inr (.inr (.inr (.inl (eq_of_beq (show (8 == z) = true from e)).symm))))
    · exact h (.inr (.inr (.inr (.inr (eq_of_beq (show (16 == z) = true from e)).symm))))
theorem ok_Cache_init (T : Top P K mg) : FnOk P w K mg base (L2.CX P w) 4 T.a_Cache_init T.d_Cache_init ["self", "sets", "ways", "size"]  (sp_Cache_init T.C_Cache T.C_PlanError) := by
  refine T.F_Cache_init.okX sc_Cache_init (fun vs H Q E h => ?_) (fun cdv A outer s H vs Q E hr h => ?_)
  · obtain ⟨_, _, _, _, _, rfl, _⟩ := h
    rfl
  · obtain ⟨o, dx, S, W, z, rfl, ⟨bS1, bS2⟩, ⟨bW1, bW2⟩, ⟨bz1, bz2⟩, ho, q, qe⟩ := h
    refine ⟨_, (pss_cons (ps_if (pt_not (pt_chain op_le op_le pe_int (pv 1) (pe_gi (by rfl) T.c_MOST_SETS)))
  (pss_one (ps_raiseErr (lv := 1) rfl T.x_PlanError fo_PlanError hr (takes_of rfl rfl rfl rfl) (pa_cons (pv 1) pa_nil)))
  pss_nil)
  (pss_cons (ps_if (pt_not (pt_chain op_le op_le pe_int (pv 2) (pe_gi (by rfl) T.c_MOST_WAYS)))
  (pss_one (ps_raiseErr (lv := 1) rfl T.x_PlanError fo_PlanError hr (takes_of rfl rfl rfl rfl) (pa_cons (pv 2) pa_nil)))
  pss_nil)
  (pss_cons (ps_if (pt_cmpR op_notIn_seq (pv 3) (pe_gr (by rfl) T.c_LINE_SIZES) (by with_unfolding_all rfl))
  (pss_one (ps_raiseErr (lv := 1) rfl T.x_PlanError fo_PlanError hr (takes_of rfl rfl rfl rfl) (pa_cons (pv 3) pa_nil)))
  pss_nil)
  (pss_cons (ps_fld (pv 0) (pv 1) rfl)
  (pss_cons (ps_fld (pv 0) (pv 2) rfl)
  (pss_cons (ps_fld (pv 0) (pv 3) rfl)
  (pss_one (ps_fld (pv 0) (pe_lc (own := [("_", 4)]) (g := gName 4) (tt := tYes) rfl sc_Cache_init.nd (pi_range1 (by rfl) T.m_range (pa_cons (pv 1) pa_nil)) (blkOk_by (N := ["self", "sets", "ways", "size", "_"]) (sc := defScope s_Cache_init) (by decide +kernel)) (fun _ _ _ _ _ => pg_name (i := 4) sc_Cache_init.nd rfl (Or.inl rfl)) (fun _ _ _ _ _ => pts_nil) (fun _ _ _ _ _ => (pe_lst pa_nil))) rfl)))))))), ?_⟩
    refine ⟨_, rfl, _, _, rfl, rfl, _, rfl, ?_⟩
    by_cases k1 : 1 ≤ S ∧ S ≤ 64
    · rw [decide_eq_true k1.1]
      refine iteT ⟨_, _, rfl, rfl, _, rfl, ?_⟩
      rw [decide_eq_true k1.2]
      refine iteF ?_
      refine ⟨_, rfl, _, _, rfl, rfl, _, rfl, ?_⟩
      by_cases k2 : 1 ≤ W ∧ W ≤ 4
      · rw [decide_eq_true k2.1]
        refine iteT ⟨_, _, rfl, rfl, _, rfl, ?_⟩
        rw [decide_eq_true k2.2]
        refine iteF ?_
        refine ⟨_, rfl, _, _, rfl, .inr (T.q_LINE_SIZES _), rfl, (by decide), _, rfl, ?_⟩
        rw [size_in]
        by_cases k3 : z = 1 ∨ z = 2 ∨ z = 4 ∨ z = 8 ∨ z = 16
        · rw [decide_eq_true k3]
          refine iteF ?_
          have ok : SizesOk S W z := ⟨k1.1, k1.2, k2.1, k2.2, k3⟩
          refine ⟨_, rfl, _, rfl, o, _, dx, [], rfl, ho, T.cl_Cache, T.n_Cache_sets, (by show 0 < 1000; decide), ?_⟩
          refine ⟨_, rfl, _, rfl, o, _, dx, _, rfl, upd_same, T.cl_Cache, T.n_Cache_ways, (by show 1 < 1000; decide), ?_⟩
          refine ⟨_, rfl, _, rfl, o, _, dx, _, rfl, upd_same, T.cl_Cache, T.n_Cache_size, (by show 2 < 1000; decide), ?_⟩
          rw [upd_upd, upd_upd]
          refine ⟨_, rfl, S, rfl, (by omega), (by omega), fun R hR => ?_⟩
          have noR : o ≠ R := fun z => by rw [z] at hR; exact absurd ((upd_same (H := H)).symm.trans (z ▸ hR)) (by intro q; cases q)
          let G := upd H o (.ins T.C_Cache dx (putF "size" (.int z) (putF "ways" (.int W) (putF "sets" (.int S) []))))
          have hG : ∀ l, G l = none → l ≠ o ∧ H l = none := fun l hl => by
            have lo : l ≠ o := fun z => by
              rw [z] at hl
              exact absurd ((upd_same (H := H)).symm.trans hl) (by intro q; cases q)
            refine ⟨lo, ?_⟩
            have : G l = H l := upd_ne lo
            exact this.symm.trans hl
          have kG : ∀ b x, b ≠ o → H b = some x → G b = some x := fun b x hb e => by
            have : G b = H b := upd_ne hb
            rw [this]
            exact e
          refine lc_range (n := S.toNat) (CopyInv G R (List.replicate S.toNat [])) (CopyInv.zero hR) ?_ ?_
          · intro i H' hi ci
            refine ⟨rfl, ?_⟩
            refine ⟨Nat.zero_le _, fun l hl => ?_⟩
            obtain ⟨ys, y1, y2, y3⟩ := ci.step (r := []) hR hl (by rw [List.getElem?_replicate, if_pos hi])
            exact ⟨ys, y1, small1000 (by omega), y3⟩
          · intro H' ci
            obtain ⟨ls, g, ⟨f1, f2⟩, sm⟩ := CopyInv.done (rows := List.replicate S.toNat []) (by rw [List.length_replicate]; exact ci) hR
            refine ⟨_, rfl, o, _, dx, _, rfl, sm o _ upd_same, T.cl_Cache, T.n_Cache_rows, (by show 3 < 1000; decide), ?_⟩
            rw [cf_put]
            have oo : o ∉ ls := fun m => (hG o (f2 o m)).1 rfl
            refine q ok _ R ls ⟨⟨dx, upd_same⟩, ⟨?_, g.nd, g.len, ?_, g.nR⟩, ?_⟩ ?_ ⟨(hG R f1).2, fun l m => (hG l (f2 l m)).2⟩
            · rw [upd_ne noR.symm]
              exact g.rr
            · intro j l r hl hr
              rw [upd_ne (fun (z : l = o) => oo (z ▸ List.mem_of_getElem? hl))]
              exact g.row j l r hl hr
            · rw [List.length_replicate]
              omega
            · intro b x hb e
              rw [upd_ne hb]
              exact sm b x (kG b x hb e)
        · rw [decide_eq_false k3]
          refine iteT ⟨_, rfl, _, rfl, msg_pl T (by omega) (by omega), fun d hd => ?_⟩
          exact qe (fun ok => k3 ok.zz) _ _ d (same_new hd) hd upd_same
      · refine and_cut k2 (fun e => ?_) (fun e1 e2 => ?_)
        · rw [e]
          refine iteF ⟨_, rfl, iteT ⟨_, rfl, _, rfl, msg_pl T (by omega) (by omega), fun d hd => ?_⟩⟩
          exact qe (fun ok => k2 ⟨ok.w1, ok.w2⟩) _ _ d (same_new hd) hd upd_same
        · rw [e1]
          refine iteT ⟨_, _, rfl, rfl, _, rfl, ?_⟩
          rw [e2]
          refine iteT ⟨_, rfl, _, rfl, msg_pl T (by omega) (by omega), fun d hd => ?_⟩
          exact qe (fun ok => k2 ⟨ok.w1, ok.w2⟩) _ _ d (same_new hd) hd upd_same
    · refine and_cut k1 (fun e => ?_) (fun e1 e2 => ?_)
      · rw [e]
        refine iteF ⟨_, rfl, iteT ⟨_, rfl, _, rfl, msg_pl T (by omega) (by omega), fun d hd => ?_⟩⟩
        exact qe (fun ok => k1 ⟨ok.s1, ok.s2⟩) _ _ d (same_new hd) hd upd_same
      · rw [e1]
        refine iteT ⟨_, _, rfl, rfl, _, rfl, ?_⟩
        rw [e2]
        refine iteT ⟨_, rfl, _, rfl, msg_pl T (by omega) (by omega), fun d hd => ?_⟩
        exact qe (fun ok => k1 ⟨ok.s1, ok.s2⟩) _ _ d (same_new hd) hd upd_same
end

section
variable {P : Program} {w : World} {K : PySem.W.Frag} {mg : Str → Option Value} {base : Heap}
theorem Same.pushTo {H1 H' : Hp} {D : Addr} {x y : HO} (n : H1 D = none) (s : Same H1 H') : Same H1 (upd H' D y) := fun b z e => by
  rw [upd_ne (ne_of_none e n)]
  exact s b z e
def sp_Cache_fits (C : Addr) : Sp := fun vs H Q _ => ∃ (o R l : Addr) (ls : List Addr) (S W z i : Int) (rows : List (List Int)) (r : List Int), vs = [.ref o, .int i, .ref l] ∧ CacheAt C H o R ls S W z rows ∧ SizesOk S W z ∧
  H l = some (.lst (r.map V.int)) ∧ r.length < 64 ∧ ∀ H', Same H H' → Q (.bl (fitsB S W i r)) H'
def fitB (S i x : Int) : Bool := (decide (0 ≤ x) && decide (x ≤ 16383)) && decide (x % S = i)
theorem ok_Cache_fits (T : Top P K mg) : FnOk P w K mg base CX0 1 T.a_Cache_fits T.d_Cache_fits ["self", "number", "lines"]  (sp_Cache_fits T.C_Cache) := by
  refine T.F_Cache_fits.ok sc_Cache_fits (fun vs H Q E h => ?_) (fun cdv A outer s H vs Q E hr h => ?_)
  · obtain ⟨_, _, _, _, _, _, _, _, _, _, rfl, _⟩ := h
    rfl
  · obtain ⟨o, R, l, ls, S, W, z, i, rows, r, rfl, c, ok, hl, l64, q⟩ := h
    refine ⟨_, (pss_cons (ps_if (pw_or (pt_cmpR op_gt (pe_callB call_len_seq (by rfl) T.m_len PySem.boot_len (pa_cons (pv 2) pa_nil)) (pe_fld (pv 0) rfl) (nomark _)) (pw_or1 (pt_cmpR op_lt (pe_lenSetD (by rfl) (by rfl) T.m_len (by rfl) T.m_set (pv 2)) (pe_callB call_len_seq (by rfl) T.m_len PySem.boot_len (pa_cons (pv 2) pa_nil)) (nomark _)))).pt
  (pss_one (ps_ret pe_bl))
  pss_nil)
  (pss_one (ps_ret (pe_callB (cr_all rfl) (by rfl) T.m_all (by decide +kernel) (pa_cons (pe_lc (own := [("line", 3)]) (g := gName 3) (tt := tYes) rfl sc_Cache_fits.nd (pi_list (pv 2)) (blkOk_by (N := ["self", "number", "lines", "line"]) (sc := defScope s_Cache_fits) (by decide +kernel)) (fun _ _ _ _ _ => pg_name (i := 3) sc_Cache_fits.nd rfl (Or.inl rfl)) (fun _ _ _ _ _ => pts_nil) (fun _ _ _ _ _ => (pe_and (pe_chain op_le op_le pe_int (pv 3) (pe_gi (by rfl) T.c_GREATEST_LINE)) (pe_one (pe_cmpR op_eq (pe_op op_mod (pv 3) (show PE _ _ (tFld K _ "sets") from pe_fld (pv 0) rfl)) (pv 1) (nomark _)))))) pa_nil))))), ?_⟩
    obtain ⟨dx, ho⟩ := c.ob
    have s0 : 0 < S := by have := ok.s1; omega
    refine if_or (a := decide ((r.length : Int) > W)) (b := decide ((distinct r : Int) < (r.length : Int))) (fun Q' q' => ⟨_, rfl, l, _, rfl, .inl (SqL.of hl), _, rfl, o, _, dx, _, _, rfl, ho, T.cl_Cache, T.n_Cache_ways, cf_W, _, _, rfl, rfl, _, rfl, by rw [List.length_map]; exact q'⟩)
      (fun _ Q' q' => ⟨_, rfl, l, r, rfl, SqL.of hl, l64, _, rfl, l, _, rfl, .inl (SqL.of hl), _, _, rfl, rfl, _, rfl, by rw [List.length_map]; exact q'⟩) ?_
    cases e : (decide ((r.length : Int) > W) || decide ((distinct r : Int) < (r.length : Int))) with
    | true =>
      refine iteT ?_
      have : fitsB S W i r = false := by
        unfold fitsB
        rw [e]
        rfl
      rw [← this]
      exact q H (fun _ _ h => h)
    | false =>
      refine iteF ?_
      have ef : fitsB S W i r = r.all (fitB S i) := by
        unfold fitsB fitB
        rw [e]
        rfl
      rw [ef] at q
      refine ⟨_, rfl, l, rfl, ⟨_, SqL.of hl⟩, fun D hD => ?_⟩
      refine lc_list (xs := r.map V.int) (fun j H' => Same H H' ∧ H' D = some (.lst ((r.take j).map fun x => V.bl (fitB S i x)))) ⟨same_new hD, upd_same⟩ (fun _ _ _ h => SqL.of (h.1 _ _ hl)) ?_ ?_
      · rintro j y H' hj ⟨s1, hD2⟩
        obtain ⟨x, hx, rfl⟩ : ∃ x, r[j]? = some x ∧ V.int x = y := by
          rw [List.getElem?_map] at hj
          cases e : r[j]? with
          | none => rw [e] at hj; cases hj
          | some x => rw [e] at hj; exact ⟨x, rfl, Option.some.inj hj⟩
        refine ⟨rfl, ?_⟩
        have tk : r.take (j + 1) = r.take j ++ [x] := by rw [List.take_add_one, hx]; rfl
        have fin : ∀ b : Bool, b = fitB S i x → ∃ acc, H' D = some (.lst acc) ∧ acc.length < sizeLine ∧ (Same H (upd H' D (.lst (acc ++ [V.bl b]))) ∧ (upd H' D (.lst (acc ++ [V.bl b]))) D = some (.lst ((r.take (j + 1)).map fun x => V.bl (fitB S i x)))) := fun b eb => by
          refine ⟨_, hD2, ?_, fun b2 z2 e2 => ?_, ?_⟩
          · rw [List.length_map]
            have := List.length_take_le j r
            have := List.length_take_le' j r
            exact small1000 (by omega)
          · rw [upd_ne (ne_of_none e2 hD)]
            exact s1 b2 z2 e2
          · rw [upd_same, tk, List.map_append, eb]
            rfl
        have hop := s1 _ _ ho
        refine ⟨_, rfl, _, _, rfl, rfl, _, rfl, ?_⟩
        by_cases k1 : 0 ≤ x ∧ x ≤ 16383
        · rw [decide_eq_true k1.1]
          refine iteT ⟨_, _, rfl, rfl, _, rfl, ?_⟩
          rw [decide_eq_true k1.2]
          refine iteT ⟨_, rfl, _, rfl, o, _, dx, _, _, rfl, hop, T.cl_Cache, T.n_Cache_sets, cf_S, _, _, rfl, rfl, s0, _, rfl, rfl, fin _ ?_⟩
          unfold fitB
          rw [decide_eq_true k1.1, decide_eq_true k1.2, Bool.true_and, Bool.true_and]
          simp
        · refine and_cut k1 (fun e => ?_) (fun e1 e2 => ?_)
          · rw [e]
            refine iteF ⟨_, rfl, iteF (fin false ?_)⟩
            unfold fitB
            rw [e]
            rfl
          · rw [e1]
            refine iteT ⟨_, _, rfl, rfl, _, rfl, ?_⟩
            rw [e2]
            refine iteF (fin false ?_)
            unfold fitB
            rw [e2, Bool.and_false]
            rfl
      · rintro H' ⟨s1, hD2⟩
        rw [List.length_map, List.take_length] at hD2
        refine ⟨D, r.map (fitB S i), rfl, ?_, ?_⟩
        · rw [List.map_map]
          exact SqL.of hD2
        · have : (r.map (fitB S i)).all id = r.all (fitB S i) := by rw [List.all_map]; rfl
          rw [this]
          exact q H' s1
def Put (o : Addr) (H H' : Hp) : Prop := ∀ b x, b ≠ o → H b = some x → H' b = some x
def sp_Cache_fill (C PE : Addr) : Sp := fun vs H Q E => ∃ (o R G : Addr) (ls gs : List Addr) (S W z : Int) (old rows : List (List Int)), vs = [.ref o, .ref G] ∧ CacheAt C H o R ls S W z old ∧ SizesOk S W z ∧
  Grid H G gs rows ∧ (∀ r ∈ rows, r.length < 64) ∧ rows.length ≤ 1000 ∧
  (((rows.length : Int) = S ∧ ∀ (i : Nat) (r : List Int), rows[i]? = some r → fitsB S W i r = true) → ∀ H' R' ls', CacheAt C H' o R' ls' S W z rows → Put o H H' → Fresh H R' ls' → Q .non H') ∧
  ((¬ (rows.length : Int) = S ∨ ∃ (i : Nat) (r : List Int), rows[i]? = some r ∧ fitsB S W i r = false) → AtOut PE H E)
theorem ok_Cache_fill (T : Top P K mg) : FnOk P w K mg base (L2.CX P w) 4 T.a_Cache_fill T.d_Cache_fill ["self", "rows"]  (sp_Cache_fill T.C_Cache T.C_PlanError) := by
  refine T.F_Cache_fill.okX sc_Cache_fill (fun vs H Q E h => ?_) (fun cdv A outer s H vs Q E hr h => ?_)
  · obtain ⟨_, _, _, _, _, _, _, _, _, _, rfl, _⟩ := h
    rfl
  · obtain ⟨o, R, G, ls, gs, S, W, z, old, rows, rfl, c, ok, g, r64, rl, q, qe⟩ := h
    refine ⟨_, (pss_cons (ps_if (pt_cmpR op_ne (pe_callB call_len_seq (by rfl) T.m_len PySem.boot_len (pa_cons (pv 1) pa_nil)) (pe_fld (pv 0) rfl) (nomark _))
  (pss_one (ps_raiseErr (lv := 1) rfl T.x_PlanError fo_PlanError hr (takes_of rfl rfl rfl rfl) (pa_cons (pe_callB call_len_seq (by rfl) T.m_len PySem.boot_len (pa_cons (pv 1) pa_nil)) pa_nil)))
  pss_nil)
  (pss_cons (ps_for (passes_of rfl) rfl (pi_enum (by rfl) T.m_enumerate (pa_cons (pv 1) pa_nil)) (pg_tup rfl (pgs_cons (pg_name (i := 2) sc_Cache_fill.nd rfl (by first | exact Or.inl rfl | exact Or.inr rfl)) (pgs_cons (pg_name (i := 3) sc_Cache_fill.nd rfl (by first | exact Or.inl rfl | exact Or.inr rfl)) pgs_nil)))
  (pss_one (ps_if (pt_not (pt_val (pe_meth (pv 0) T.cl_Cache T.m_Cache_fits (ok_Cache_fits T) (hr.mono (by decide)) T.b_Cache_fits .nil pass0 (pa_cons (pv 2) (pa_cons (pv 3) pa_nil)))))
  (pss_one (ps_raiseErr (lv := 1) rfl T.x_PlanError fo_PlanError hr (takes_of rfl rfl rfl rfl) (pa_cons (pv 2) pa_nil)))
  pss_nil)))
  (pss_one (ps_fld (pv 0) (pe_lc (own := [("lines", 3)]) (g := gName 3) (tt := tYes) rfl sc_Cache_fill.nd (pi_list (pv 1)) (blkOk_by (N := ["self", "rows", "number", "lines"]) (sc := defScope s_Cache_fill) (by decide +kernel)) (fun _ _ _ _ _ => pg_name (i := 3) sc_Cache_fill.nd rfl (Or.inl rfl)) (fun _ _ _ _ _ => pts_nil) (fun _ _ _ _ _ => (pe_callTy (show CallR _ (Value.type "list") (rListOf K) from call_list_of) (by rfl) T.m_list (by decide +kernel) (pa_cons (pv 3) pa_nil)))) rfl)))), ?_⟩
    obtain ⟨dx, ho⟩ := c.ob
    refine ⟨_, rfl, G, _, rfl, .inl (SqL.of g.rr), _, rfl, o, _, dx, _, _, rfl, ho, T.cl_Cache, T.n_Cache_sets, cf_S, rfl, _, rfl, ?_⟩
    by_cases k1 : (rows.length : Int) = S
    · rw [decide_eq_true (show V.int (((gs.map V.ref).length : Nat) : Int) = V.int S by rw [List.length_map, g.len, k1])]
      refine iteF ?_
      refine ⟨_, rfl, G, _, rfl, SqL.of g.rr, for_enum (xs := gs.map V.ref) (fun i σ H' => ∃ y2 y3, σ = [some (.ref o), some (.ref G), y2, y3] ∧ Same H H' ∧ ∀ (j : Nat) (r : List Int), j < i → rows[j]? = some r → fitsB S W j r = true) ⟨none, none, rfl, fun _ _ h => h, fun j r hj => absurd hj (Nat.not_lt_zero _)⟩
        (fun i σ H' _ ⟨_, _, _, s1, _⟩ => SqL.of (s1 _ _ g.rr)) ?_ ?_⟩
      · rintro i v Tt σ H' hv ⟨y2, y3, rfl, s1, hf⟩ nT
        obtain ⟨l, hl, rfl⟩ : ∃ l, gs[i]? = some l ∧ V.ref l = v := by
          rw [List.getElem?_map] at hv
          cases e : gs[i]? with
          | none => rw [e] at hv; cases hv
          | some l => rw [e] at hv; exact ⟨l, rfl, Option.some.inj hv⟩
        obtain ⟨r, hr2, hH⟩ := g.get' hl
        have s2 : Same H (upd H' Tt (.tup [.int i, .ref l])) := s1.trans (same_new nT)
        refine ⟨Tt, _, rfl, SqT.of upd_same, rfl, _, _, rfl, _, _, rfl, rfl, ?_⟩
        refine ⟨_, rfl, o, dx, _, rfl, s2 _ _ ho, cf_no, _, rfl, _, rfl, o, R, l, ls, S, W, z, (i : Int), old, r, rfl, c.same s2, ok, s2 _ _ hH, r64 r (List.mem_of_getElem? hr2), fun H2 s3 => ?_⟩
        refine ⟨_, rfl, ?_⟩
        have il : i < rows.length := (List.getElem?_eq_some_iff.mp hr2).1
        cases ef : fitsB S W (i : Int) r with
        | false =>
          refine iteT ⟨_, rfl, _, rfl, msg_pl T (by omega) (by omega), fun d hd => ?_⟩
          exact qe (.inr ⟨i, r, hr2, ef⟩) _ _ d ((s2.trans s3).trans (same_new hd)) ((s2.trans s3).free hd) upd_same
        | true =>
          refine iteF ⟨_, _, rfl, s2.trans s3, fun j r2 hj h2 => ?_⟩
          by_cases ji : j = i
          · subst ji
            rw [hr2] at h2
            cases h2
            exact ef
          · exact hf j r2 (by omega) h2
      · rintro σ H1 ⟨y2, y3, rfl, s1, hf⟩
        have hall : ∀ (i : Nat) (r : List Int), rows[i]? = some r → fitsB S W i r = true := fun i r hr2 => by
          refine hf i r ?_ hr2
          rw [List.length_map, g.len]
          exact (List.getElem?_eq_some_iff.mp hr2).1
        refine ⟨_, rfl, G, rfl, ⟨_, SqL.of (s1 _ _ g.rr)⟩, fun D nD => ?_⟩
        refine lc_list (xs := gs.map V.ref) (CopyInv H1 D rows) (CopyInv.zero nD) (fun i H' _ ci => SqL.of (ci.same _ _ (s1 _ _ g.rr))) ?_ ?_
        · intro i v H' hv ci
          obtain ⟨l, hl, rfl⟩ : ∃ l, gs[i]? = some l ∧ V.ref l = v := by
            rw [List.getElem?_map] at hv
            cases e : gs[i]? with
            | none => rw [e] at hv; cases hv
            | some l => rw [e] at hv; exact ⟨l, rfl, Option.some.inj hv⟩
          obtain ⟨r, hr2, hH⟩ := g.get' hl
          refine ⟨rfl, ?_⟩
          refine ⟨_, rfl, l, _, rfl, .inl (SqL.of (ci.same _ _ (s1 _ _ hH))), fun m hm => ?_⟩
          obtain ⟨ys, y1, yl, y3⟩ := ci.step nD hm hr2
          have il : i < rows.length := (List.getElem?_eq_some_iff.mp hr2).1
          exact ⟨ys, y1, small1000 (by omega), y3⟩
        · intro H' ci
          rw [List.length_map, g.len] at ci
          obtain ⟨ls2, g2, f2, s2⟩ := ci.done nD
          have ho2 := s2 _ _ (s1 _ _ ho)
          have oD : o ≠ D := fun e => by rw [← e, s1 _ _ ho] at nD; cases nD
          have ol : o ∉ ls2 := fun m => by have e1 := f2.2 o m; rw [s1 _ _ ho] at e1; cases e1
          refine ⟨_, rfl, o, _, dx, _, rfl, ho2, T.cl_Cache, T.n_Cache_rows, (by show 4 < 1000; decide), ?_⟩
          rw [cf_rows]
          refine q ⟨k1, hall⟩ _ D ls2 ⟨⟨dx, upd_same⟩, ⟨?_, g2.nd, g2.len, ?_, g2.nR⟩, k1.symm⟩ ?_ ⟨s1.free nD, fun l m => s1.free (f2.2 l m)⟩
          · rw [upd_ne oD.symm]
            exact g2.rr
          · intro j l r hl hr2
            rw [upd_ne (fun (e : l = o) => ol (e ▸ List.mem_of_getElem? hl))]
            exact g2.row j l r hl hr2
          · intro b x hb e
            rw [upd_ne hb]
            exact s2 _ _ (s1 _ _ e)
    · rw [decide_eq_false (show ¬ V.int (((gs.map V.ref).length : Nat) : Int) = V.int S by rw [List.length_map, g.len]; exact fun z => k1 (V.int.inj z))]
      refine iteT ⟨_, rfl, G, _, rfl, .inl (SqL.of g.rr), _, rfl, msg_pl T (by omega) (by rw [List.length_map, g.len]; omega), fun d hd => ?_⟩
      exact qe (.inl k1) _ _ d (same_new hd) hd upd_same
end

section
variable {P : Program} {w : World} {K : PySem.W.Frag} {mg : Str → Option Value} {base : Heap}
theorem inV_int (x : Int) (r : List Int) : inV (.int x) (r.map V.int) = decide (x ∈ r) := by
  unfold inV
  rw [List.any_map]
  by_cases h : x ∈ r
  · rw [decide_eq_true h, List.any_eq_true]
    exact ⟨x, h, beq_self_eq_true x⟩
  · rw [decide_eq_false h, List.any_eq_false]
    intro y hy e
    have e2 : (y == x) = true := e
    exact h (by rw [← eq_of_beq e2]; exact hy)
theorem flat_ints (r : List Int) : (r.map V.int).all flatV = true := by
  rw [List.all_map, List.all_eq_true]
  intro x _
  rfl
def rowAt (rows : List (List Int)) (S x : Int) : List Int := rows.getD (x % S).toNat []
theorem CacheAt.get {C : Addr} {H : Hp} {o R : Addr} {ls : List Addr} {S W z : Int} {rows : List (List Int)} (c : CacheAt C H o R ls S W z rows) (ok : SizesOk S W z) (x : Int) :
    ∃ (j : Nat) (l : Addr), x % S = (j : Int) ∧ j < rows.length ∧ ls[j]? = some l ∧ H l = some (.lst ((rowAt rows S x).map V.int)) := by
  obtain ⟨s1, _⟩ := ok
  have m0 := Int.emod_nonneg x (show S ≠ 0 by omega)
  have m1 := Int.emod_lt_of_pos x (show 0 < S by omega)
  have hS := c.sets
  have hj : (x % S).toNat < rows.length := by omega
  have e2 : rows[(x % S).toNat]? = some (rowAt rows S x) := by
    unfold rowAt
    rw [List.getD_eq_getElem?_getD, List.getElem?_eq_getElem hj]
    rfl
  obtain ⟨l, h1, h2⟩ := c.gr.get e2
  exact ⟨_, l, by omega, hj, h1, h2⟩
def sp_Cache_holds (C : Addr) : Sp := fun vs H Q _ => ∃ (o R : Addr) (ls : List Addr) (S W z : Int) (rows : List (List Int)) (a : Int), vs = [.ref o, .int a] ∧ CacheAt C H o R ls S W z rows ∧ SizesOk S W z ∧ Q (.bl (decide (a / z ∈ rowAt rows S (a / z)))) H
theorem ok_Cache_holds (T : Top P K mg) : FnOk P w K mg base CX0 1 T.a_Cache_holds T.d_Cache_holds ["self", "address"]  (sp_Cache_holds T.C_Cache) := by
  refine T.F_Cache_holds.ok sc_Cache_holds (fun vs H Q E h => ?_) (fun cdv A outer s H vs Q E hr h => ?_)
  · obtain ⟨_, _, _, _, _, _, _, _, rfl, _⟩ := h
    rfl
  · obtain ⟨o, R, ls, S, W, z, rows, a, rfl, c, ok, q⟩ := h
    refine ⟨_, (pss_cons (ps_set (i := 2) sc_Cache_holds.nd rfl (by first | exact Or.inl rfl | exact Or.inr rfl) (pe_op op_fdiv (pv 1) (pe_fld (pv 0) rfl)))
  (pss_one (ps_ret (pe_cmpR op_in_seq (pv 2) (pe_ix ix_list (pe_fld (pv 0) rfl) (pe_op op_mod (pv 2) (pe_fld (pv 0) rfl)) (fun _ _ => rfl)) (by with_unfolding_all rfl))))), ?_⟩
    obtain ⟨dx, ho⟩ := c.ob
    obtain ⟨z0, z1⟩ := ok.z0
    have s0 : 0 < S := by have := ok.s1; omega
    obtain ⟨j, l, ej, hj, hl, hH⟩ := c.get ok (a / z)
    refine ⟨_, rfl, _, rfl, o, _, dx, _, _, rfl, ho, T.cl_Cache, T.n_Cache_size, cf_z, _, _, rfl, rfl, ⟨z0, by omega⟩, ?_⟩
    refine ⟨_, rfl, _, rfl, o, _, dx, _, _, rfl, ho, T.cl_Cache, T.n_Cache_rows, cf_R, _, rfl, _, rfl, o, _, dx, _, _, rfl, ho, T.cl_Cache, T.n_Cache_sets, cf_S, _, _, rfl, rfl, s0, ?_⟩
    refine ⟨R, _, _, .ref l, rfl, rfl, SqL.of c.gr.rr, at_of ej (by rw [List.getElem?_map, hl]; rfl), ?_⟩
    refine ⟨l, _, rfl, .inl (SqL.of hH), rfl, flat_ints _, ?_⟩
    rw [inV_int]
    exact q
def sp__law_made (C : Addr) : Sp := fun vs H Q _ => ∃ (S W z : Int), vs = [.int S, .int W, .int z] ∧ small S ∧ small W ∧ small z ∧
  (SizesOk S W z → ∀ (H' : Hp) (o R : Addr) (ls : List Addr), CacheAt C H' o R ls S W z (List.replicate S.toNat []) → Same H H' → Fresh H R ls → H o = none → Q (.ref o) H') ∧
  (¬ SizesOk S W z → ∀ H', Same H H' → Q .non H')
theorem ok__law_made (T : Top P K mg) : FnOk P w K mg base CX0 6 T.a__law_made T.d__law_made ["sets", "ways", "size"]  (sp__law_made T.C_Cache) := by
  refine T.F__law_made.ok sc__law_made (fun vs H Q E h => ?_) (fun cdv A outer s H vs Q E hr h => ?_)
  · obtain ⟨_, _, _, rfl, _⟩ := h
    rfl
  · obtain ⟨S, W, z, rfl, b1, b2, b3, q, qn⟩ := h
    refine ⟨_, (pss_one (ps_try_as (i := 3) (Wout := fun _ _ _ _ => False) rfl rfl sc__law_made.nd rfl rfl ⟨rfl, by decide, Or.inl T.gc_PlanError⟩ takes0 (fun W pn xe tk _ => (pss_one (ps_ret (pe_makeS T.M_Cache (ok_Cache_init T) (hr.mono (by decide)) (by rfl) T.gc_Cache T.b_Cache_init (fun σ => passAt tk σ) (pa_cons (pv 0) (pa_cons (pv 1) (pa_cons (pv 2) pa_nil))))))) (fun a oe cls d pn hz hf => (pss_cons (ps_if (PW.pt (pw_or (pt_not (pt_val (pe_callB (call_isD T.xd_PlanError hz hf) (by rfl) T.m_isinstance (by decide +kernel) (pa_cons (pv 3) (pa_cons (pe_gr (by rfl) T.gc_DeadbeatError) pa_nil))))) (pw_or1 (pt_not (pt_val (pe_callB (show CallR _ (Value.builtin "isinstance") (rIsi K) from call_isi) (by rfl) T.m_isinstance (by decide +kernel) (by exact (pa_cons (pe_xf T.xf_PlanError T.x_PlanError.noN hz hf (pv 3)) (pa_cons (pe_ty (T := "int") (by rfl) T.m_int (by decide +kernel)) pa_nil)))))))))
  (pss_one (ps_ret pe_int))
  pss_nil)
  (pss_one (ps_ret pe_non)))))), ?_⟩
    refine ⟨_, rfl, _, rfl, _, rfl, fun x dx nx nd ned => ?_⟩
    have s0 : Same H (upd (upd H dx (.own x)) x (.ins T.C_Cache dx [])) := fun b y e => by
      rw [upd_ne (ne_of_none e nx), upd_ne (ne_of_none e nd)]
      exact e
    refine ⟨x, dx, S, W, z, rfl, b1, b2, b3, upd_same, fun ok H' R ls c k f => ⟨rfl, ?_⟩, fun no n H1 d sm hd hx => ?_⟩
    · refine q ok H' x R ls c (fun b y e => ?_) ⟨s0.free f.1, fun l m => s0.free (f.2 l m)⟩ nx
      refine k b y (ne_of_none e nx) ?_
      exact s0 b y e
    · refine ⟨true, T.x_PlanError.te, fun _ a na => ?_, fun q => Bool.noConfusion q⟩
      refine if_or (a := false) (b := false) (fun Q' q' => ⟨_, rfl, _, (.ref T.C_DeadbeatError), true, d, _, rfl, rfl, rfl, fun u h => h, T.kt_PlanError_DeadbeatError, hx, true, rfl, q'⟩)
        (fun _ Q' q' => ⟨_, rfl, rfl, rfl, d, _, _, rfl, hx, rfl, _, _, _, _, true, rfl, .ty _, .base (.int _), kit_ty (by decide +kernel), true, rfl, q'⟩) (iteF ?_)
      exact qn no H1 (s0.trans sm)
def BadRows (S W : Int) (rows : List (List Int)) : Prop := ¬ (rows.length : Int) = S ∨ ∃ (i : Nat) (r : List Int), rows[i]? = some r ∧ fitsB S W i r = false
def GoodRows (S W : Int) (rows : List (List Int)) : Prop := (rows.length : Int) = S ∧ ∀ (i : Nat) (r : List Int), rows[i]? = some r → fitsB S W i r = true
theorem good_not_bad {S W : Int} {rows : List (List Int)} (g : GoodRows S W rows) (b : BadRows S W rows) : False := by
  rcases b with b | ⟨i, r, h1, h2⟩
  · exact b g.1
  · rw [g.2 i r h1] at h2
    cases h2
def sp__law_refused (C : Addr) : Sp := fun vs H Q _ => ∃ (o R G : Addr) (ls gs : List Addr) (S W z : Int) (old rows : List (List Int)), vs = [.ref o, .ref G] ∧ CacheAt C H o R ls S W z old ∧ SizesOk S W z ∧
  Grid H G gs rows ∧ (∀ r ∈ rows, r.length < 64) ∧ rows.length ≤ 1000 ∧ BadRows S W rows ∧ ∀ H', Same H H' → Q (.bl true) H'
theorem ok__law_refused (T : Top P K mg) : FnOk P w K mg base CX0 5 T.a__law_refused T.d__law_refused ["cache", "rows"]  (sp__law_refused T.C_Cache) := by
  refine T.F__law_refused.ok sc__law_refused (fun vs H Q E h => ?_) (fun cdv A outer s H vs Q E hr h => ?_)
  · obtain ⟨_, _, _, _, _, _, _, _, _, _, rfl, _⟩ := h
    rfl
  · obtain ⟨o, R, G, ls, gs, S, W, z, old, rows, rfl, c, ok, g, r64, rl, bad, q⟩ := h
    refine ⟨_, (pss_cons (ps_try_as (i := 2) (Wout := fun _ _ _ _ => False) rfl rfl sc__law_refused.nd rfl rfl ⟨rfl, by decide, Or.inl T.gc_PlanError⟩ takes0 (fun W pn xe tk _ => (pss_one (ps_expr (pe_methX (pv 0) T.cl_Cache T.m_Cache_fill (ok_Cache_fill T) (hr.mono (by decide)) T.b_Cache_fill (fun σ => passAt tk σ) (pa_cons (pv 1) pa_nil))))) (fun a oe cls d pn hz hf => (pss_one (ps_ret (pe_callB (show CallR _ (Value.builtin "isinstance") (rIsi K) from call_isi) (by rfl) T.m_isinstance (by decide +kernel) (by exact (pa_cons (pe_xf T.xf_PlanError T.x_PlanError.noN hz hf (pv 2)) (pa_cons (pe_ty (T := "int") (by rfl) T.m_int (by decide +kernel)) pa_nil))))))))
  (pss_one (ps_ret pe_bl))), ?_⟩
    obtain ⟨dx, ho⟩ := c.ob
    refine ⟨_, rfl, o, dx, _, rfl, ho, cf_no, _, rfl, o, R, G, ls, gs, S, W, z, old, rows, rfl, c, ok, g, r64, rl, fun good => (good_not_bad good bad).elim, fun _ n H1 d sm hd hx => ?_⟩
    refine ⟨true, T.x_PlanError.te, fun _ a na => ?_, fun q => Bool.noConfusion q⟩
    refine ⟨_, rfl, rfl, rfl, d, _, _, rfl, hx, rfl, _, _, _, _, true, rfl, .ty _, .base (.int _), kit_ty (by decide +kernel), ?_⟩
    exact q _ sm
end

section
variable {P : Program} {w : World} {K : PySem.W.Frag} {mg : Str → Option Value} {base : Heap}
theorem fits_of {S W i : Int} {r : List Int} (nd : r.Nodup) (hl : (r.length : Int) ≤ W) (ha : ∀ x ∈ r, 0 ≤ x ∧ x ≤ 16383 ∧ x % S = i) : fitsB S W i r = true := by
  unfold fitsB
  rw [distinct_nodup nd, decide_eq_false (show ¬ ((r.length : Int) > W) by omega), decide_eq_false (show ¬ ((r.length : Int) < (r.length : Int)) by omega)]
  rw [show (!(false || false)) = true from rfl, Bool.true_and, List.all_eq_true]
  intro x hx
  obtain ⟨h1, h2, h3⟩ := ha x hx
  rw [decide_eq_true h1, decide_eq_true h2, decide_eq_true h3]
  rfl
def sp__law_valid : Sp := fun vs H Q _ => ∃ (p c : Addr) (S W : Int), vs = [.ref p, .int S, .int W] ∧ StOk H p c ∧ 1 ≤ S ∧ S ≤ 64 ∧ 1 ≤ W ∧ W ≤ 4 ∧
  ∀ (H' : Hp) (R : Addr) (ls : List Addr) (rows : List (List Int)), Grid H' R ls rows → GoodRows S W rows → StOk H' p c → Keep p H H' → Fresh H R ls → Q (.ref R) H'
theorem StOk.there {H : Hp} {p c : Addr} (s : StOk H p c) : (∃ x, H p = some x) ∧ ∃ x, H c = some x := by
  obtain ⟨ms, k, v, sd, _, h2, h3, _⟩ := s
  exact ⟨⟨_, h2⟩, ⟨_, h3⟩⟩
theorem StOk.keepN {H H' : Hp} {p c : Addr} (s : StOk H p c) (h1 : ∀ x, H p = some x → H' p = some x) (h2 : ∀ x, H c = some x → H' c = some x) : StOk H' p c := by
  obtain ⟨ms, k, v, sd, a, b, e, r⟩ := s
  exact ⟨ms, k, v, sd, a, h1 _ b, h2 _ e, r⟩
/-- a change at a place that is new -/
theorem StOk.off {H H1 : Hp} {p c D : Addr} {x : HO} (s : StOk H1 p c) (s0 : StOk H p c) (n : H D = none) : StOk (upd H1 D x) p c := by
  obtain ⟨⟨_, hp⟩, ⟨_, hc⟩⟩ := s0.there
  exact s.keepN (fun y e => by rw [upd_ne (ne_of_none hp n)]; exact e) (fun y e => by rw [upd_ne (ne_of_none hc n)]; exact e)
theorem Keep.off {p : Addr} {H H1 : Hp} {D : Addr} {x : HO} (k : Keep p H H1) (n : H D = none) : Keep p H (upd H1 D x) := fun b y hb e => by
  rw [upd_ne (ne_of_none e n)]
  exact k b y hb e
/-- the rows so far -/
def VInv (H : Hp) (p c R : Addr) (S W : Int) (i : Nat) (H' : Hp) : Prop := ∃ (ls : List Addr) (rows : List (List Int)), Grid H' R ls rows ∧ rows.length = i ∧ (∀ (j : Nat) (r : List Int), rows[j]? = some r → fitsB S W j r = true) ∧ StOk H' p c ∧ Keep p H H' ∧ Fresh H R ls
theorem ok__law_valid (T : Top P K mg) : FnOk P w K mg base CX0 2 T.a__law_valid T.d__law_valid ["state", "sets", "ways"]  sp__law_valid := by
  refine T.F__law_valid.ok sc__law_valid (fun vs H Q E h => ?_) (fun cdv A outer s H vs Q E hr h => ?_)
  · obtain ⟨_, _, _, _, rfl, _⟩ := h
    rfl
  · obtain ⟨p, c, S, W, rfl, st, s1, s2, w1, w2, q⟩ := h
    refine ⟨_, (pss_cons (ps_set (i := 3) sc__law_valid.nd rfl (by first | exact Or.inl rfl | exact Or.inr rfl) (pe_lst pa_nil))
  (pss_cons (ps_for PassesOwn.never rfl (pi_range1 (by rfl) T.m_range (pa_cons (pv 1) pa_nil)) (pg_name (i := 4) sc__law_valid.nd rfl (by first | exact Or.inl rfl | exact Or.inr rfl))
  (pss_cons (ps_set (i := 5) sc__law_valid.nd rfl (by first | exact Or.inl rfl | exact Or.inr rfl) (pe_lst pa_nil))
  (pss_cons (ps_for PassesOwn.never rfl (pi_range1 (by rfl) T.m_range (pa_cons (pe_call (ok__law_draw T) (hr.mono (by decide)) (by rfl) T.g__law_draw T.F__law_draw.kp T.b__law_draw .nil pass0 (pa_cons (pv 0) (pa_cons (pe_op op_add (pv 2) pe_int) pa_nil))) pa_nil)) (pg_name (i := 6) sc__law_valid.nd rfl (by first | exact Or.inl rfl | exact Or.inr rfl))
  (pss_cons (ps_set (i := 7) sc__law_valid.nd rfl (by first | exact Or.inl rfl | exact Or.inr rfl) (pe_op op_add (pv 4) (pe_op op_mul (pv 1) (pe_call (ok__law_draw T) (hr.mono (by decide)) (by rfl) T.g__law_draw T.F__law_draw.kp T.b__law_draw .nil pass0 (pa_cons (pv 0) (pa_cons (pe_op op_add (pe_op op_fdiv (pe_op op_sub pe_int (pv 4)) (pv 1)) pe_int) pa_nil))))))
  (pss_one (ps_if (pt_cmpR op_notIn_seq (pv 7) (pv 5) (by with_unfolding_all rfl))
  (pss_one (ps_expr (pe_bm PySem.F.plainAttrs_list PySem.F.slot_list_append PySem.F.type_list_append mt_append (pv 5) (pa_cons (pv 7) pa_nil))))
  pss_nil))))
  (pss_one (ps_expr (pe_bm PySem.F.plainAttrs_list PySem.F.slot_list_append PySem.F.type_list_append mt_append (pv 3) (pa_cons (pv 5) pa_nil)))))))
  (pss_one (ps_ret (pv 3))))), ?_⟩
    refine ⟨Nat.zero_le _, fun R nR => ?_⟩
    refine ⟨_, rfl, S, rfl, (by omega), (by omega), for_range (n := S.toNat) (fun i σ H' => ∃ y4 y5 y6 y7, σ = [some (.ref p), some (.int S), some (.int W), some (.ref R), y4, y5, y6, y7] ∧ VInv H p c R S W i H')
      ⟨none, none, none, none, rfl, [], [], ⟨upd_same, List.nodup_nil, rfl, by simp, by simp⟩, rfl, by simp, st.same (same_new nR), Keep.same (same_new nR), nR, by simp⟩ ?_ ?_⟩
    · rintro i σ H1 hi ⟨y4, y5, y6, y7, rfl, ls, rows, g, rl, hf, st1, k1, f1, f2⟩
      refine ⟨Nat.zero_le _, fun D nD => ?_⟩
      have D0 : H D = none := k1.free st1 nD
      have stD : StOk (upd H1 D (.lst [])) p c := st1.same (same_new nD)
      refine ⟨_, rfl, _, rfl, _, _, rfl, rfl, p, c, W + 1, rfl, stD, by omega, by omega, fun v H2 v0 v1 st2 k2 => ?_⟩
      have pD : D ≠ p := (st1.ne nD).1
      refine ⟨v, rfl, (by omega), (by omega), for_range (n := v.toNat) (fun k σ H' => ∃ y6 y7, σ = [some (.ref p), some (.int S), some (.int W), some (.ref R), some (.int (0 + (i : Int))), some (.ref D), y6, y7] ∧
        ∃ r : List Int, H' D = some (.lst (r.map V.int)) ∧ r.Nodup ∧ r.length ≤ k ∧ (∀ x ∈ r, 0 ≤ x ∧ x ≤ 16383 ∧ x % S = i) ∧ StOk H' p c ∧ Keep p H1 H')
        ⟨y6, y7, rfl, [], k2 _ _ pD upd_same, List.nodup_nil, Nat.le_refl _, by simp, st2, (Keep.same (same_new nD)).trans k2⟩ ?_ ?_⟩
      · rintro k σ H3 hk ⟨z6, z7, rfl, r, hr3, nd, rlen, ra, st3, k3⟩
        have hd : 0 ≤ (16383 - (0 + (i : Int))) / S := Int.ediv_nonneg (by omega) (by omega)
        have hd2 : (16383 - (0 + (i : Int))) / S ≤ 16383 := Int.ediv_le_of_le_mul (by omega) (by
          have : (16383 : Int) * 1 ≤ 16383 * S := Int.mul_le_mul_of_nonneg_left s1 (by decide)
          omega)
        refine ⟨_, rfl, _, rfl, _, rfl, _, rfl, _, _, rfl, rfl, _, rfl, _, _, rfl, rfl, ⟨by omega, by omega⟩, _, _, rfl, rfl, p, c, _, rfl, st3, by omega, by omega, fun u H4 u0 u1 st4 k4 => ?_⟩
        refine ⟨_, _, rfl, rfl, .inl ⟨by omega, by omega⟩, _, _, rfl, rfl, ?_⟩
        have mul1 : S * u ≤ S * ((16383 - (0 + (i : Int))) / S) := Int.mul_le_mul_of_nonneg_left (by omega) (by omega)
        have mul2 : S * ((16383 - (0 + (i : Int))) / S) ≤ 16383 - (0 + (i : Int)) := Int.mul_ediv_self_le (by omega)
        have mul3 : 0 ≤ S * u := Int.mul_nonneg (by omega) u0
        obtain ⟨line, el⟩ : ∃ line, line = (0 + (i : Int)) + S * u := ⟨_, rfl⟩
        have em : line % S = i := by
          rw [el, Int.add_mul_emod_self_left, Int.zero_add]
          exact Int.emod_eq_of_lt (by omega) (by omega)
        show gName 7 (V.int ((0 + (i : Int)) + S * u)) _ _ _
        rw [← el]
        have k34 := k3.trans k4
        have hr4 : H4 D = some (.lst (r.map V.int)) := k4 _ _ pD hr3
        refine ⟨_, rfl, _, rfl, D, _, rfl, .inl (SqL.of hr4), rfl, flat_ints _, _, rfl, ?_⟩
        rw [inV_int]
        by_cases m : line ∈ r
        · rw [decide_eq_true m]
          refine iteF ⟨_, _, rfl, r, hr4, nd, by omega, ra, st4, k34⟩
        · rw [decide_eq_false m]
          refine iteT ⟨_, rfl, .inl ⟨rfl, _, SqL.of hr4⟩, _, rfl, D, _, _, rfl, rfl, hr4, ?_, ?_⟩
          · rw [List.length_map]
            exact small1000 (by omega)
          · refine ⟨_, _, rfl, r ++ [line], ?_, ?_, ?_, ?_, st4.off st1 nD, k34.off nD⟩
            · rw [upd_same, List.map_append]
              rfl
            · rw [List.nodup_append]
              exact ⟨nd, by simp, fun a ha b hb => by
                rw [List.mem_singleton] at hb
                subst hb
                exact fun z => m (z ▸ ha)⟩
            · rw [List.length_append, List.length_singleton]
              omega
            · intro x hx
              rcases List.mem_append.mp hx with hx | hx
              · exact ra x hx
              · rw [List.mem_singleton.mp hx]
                exact ⟨by omega, by omega, em⟩
      · rintro σ H3 ⟨z6, z7, rfl, r, hr3, nd, rlen, ra, st3, k3⟩
        have pR : R ≠ p := fun e => by
          obtain ⟨⟨_, hp⟩, _⟩ := st.there
          rw [← e, f1] at hp
          cases hp
        have hR3 : H3 R = some (.lst (ls.map V.ref)) := k3 _ _ pR g.rr
        have RD : R ≠ D := ne_of_none g.rr nD
        have pl : p ∉ ls := fun m => by
          obtain ⟨⟨_, hp⟩, _⟩ := st.there
          rw [f2 p m] at hp
          cases hp
        have Dl : D ∉ ls := fun m => by
          obtain ⟨j, hj⟩ := List.getElem?_of_mem m
          obtain ⟨r2, _, hH⟩ := g.get' hj
          rw [hH] at nD
          cases nD
        refine ⟨_, rfl, .inl ⟨rfl, _, SqL.of hR3⟩, _, rfl, R, _, _, rfl, rfl, hR3, ?_, ?_⟩
        · rw [List.length_map, g.len, rl]
          exact small1000 (by omega)
        · refine ⟨_, _, _, _, rfl, ls ++ [D], rows ++ [r], ⟨?_, ?_, ?_, ?_, ?_⟩, ?_, ?_, st3.off st f1, (k1.trans k3).off f1, f1, ?_⟩
          · rw [upd_same, List.map_append]
            rfl
          · rw [List.nodup_append]
            exact ⟨g.nd, by simp, fun a ha b hb => by
              rw [List.mem_singleton] at hb
              subst hb
              exact fun z => Dl (z ▸ ha)⟩
          · rw [List.length_append, List.length_append, g.len]
            rfl
          · intro j l r2 hl hr2
            by_cases hj : j < ls.length
            · rw [List.getElem?_append_left hj] at hl
              rw [List.getElem?_append_left (by rw [← g.len]; exact hj)] at hr2
              have m := List.mem_of_getElem? hl
              have h1 := k3 l _ (fun e => pl (e ▸ m)) (g.row j l r2 hl hr2)
              rw [upd_ne (fun (e : l = R) => g.nR (e ▸ m))]
              exact h1
            · rw [List.getElem?_append_right (by omega)] at hl
              rw [List.getElem?_append_right (by rw [← g.len]; omega)] at hr2
              have e0 : j - ls.length = 0 := by
                have := (List.getElem?_eq_some_iff.mp hl).1
                simp at this
                omega
              rw [← g.len] at hr2
              rw [e0] at hl hr2
              cases hl
              cases hr2
              rw [upd_ne RD.symm]
              exact hr3
          · intro m
            rcases List.mem_append.mp m with m | m
            · exact g.nR m
            · exact RD (List.mem_singleton.mp m)
          · rw [List.length_append, rl]
            rfl
          · intro j r2 hr2
            by_cases hj : j < rows.length
            · rw [List.getElem?_append_left hj] at hr2
              exact hf j r2 hr2
            · rw [List.getElem?_append_right (by omega)] at hr2
              have e0 : j - rows.length = 0 := by
                have := (List.getElem?_eq_some_iff.mp hr2).1
                simp at this
                omega
              rw [e0] at hr2
              cases hr2
              have ej : j = i := by omega
              subst ej
              exact fits_of nd (by omega) ra
          · intro l m
            rcases List.mem_append.mp m with m | m
            · exact f2 l m
            · rw [List.mem_singleton.mp m]
              exact D0
    · rintro σ H1 ⟨y4, y5, y6, y7, rfl, ls, rows, g, rl, hf, st1, k1, f⟩
      exact ⟨_, rfl, q H1 R ls rows g ⟨by omega, hf⟩ st1 k1 f⟩
end

section
variable {P : Program} {w : World} {K : PySem.W.Frag} {mg : Str → Option Value} {base : Heap}
theorem cut_to {xs : List V} {a : Nat} (h : a ≤ xs.length) : cutV xs none (some (a : Int)) = xs.take a := by
  unfold cutV
  rw [HT.sIx_none, HT.sIx_nat, List.drop_zero, Nat.min_eq_left h]
  rfl
theorem cut_from {xs : List V} {a : Nat} (h : a ≤ xs.length) : cutV xs (some (a : Int)) none = xs.drop a := by
  unfold cutV
  rw [HT.sIx_none, HT.sIx_nat, Nat.min_eq_left h]
  exact List.take_of_length_le (by rw [List.length_drop]; omega)
theorem Grid.keep {p : Addr} {H H' : Hp} {R : Addr} {ls : List Addr} {rows : List (List Int)} (g : Grid H R ls rows) (k : Keep p H H') (h1 : R ≠ p) (h2 : p ∉ ls) : Grid H' R ls rows :=
  ⟨k _ _ h1 g.rr, g.nd, g.len, fun i l r hl hr => k _ _ (fun e => h2 (e ▸ List.mem_of_getElem? hl)) (g.row i l r hl hr), g.nR⟩
theorem Grid.is {H : Hp} {R : Addr} {ls : List Addr} {rows : List (List Int)} (g : Grid H R ls rows) {l : Addr} (m : l ∈ ls) : ∃ x, H l = some x := by
  obtain ⟨j, hj⟩ := List.getElem?_of_mem m
  obtain ⟨r, _, h⟩ := g.get' hj
  exact ⟨_, h⟩
theorem nodup_set : ∀ {l : List Addr} {j : Nat} {m : Addr}, l.Nodup → m ∉ l → (l.set j m).Nodup
  | [], _, _, _, _ => List.nodup_nil
  | x :: r, 0, m, h, n => by
    rw [List.nodup_cons] at h
    exact List.nodup_cons.mpr ⟨fun q => n (List.mem_cons_of_mem _ q), h.2⟩
  | x :: r, j + 1, m, h, n => by
    rw [List.nodup_cons] at h
    refine List.nodup_cons.mpr ⟨fun q => ?_, nodup_set h.2 fun q => n (List.mem_cons_of_mem _ q)⟩
    rcases List.mem_or_eq_of_mem_set q with q | q
    · exact h.1 q
    · exact n (q ▸ List.mem_cons_self)
/-- another list in the place of one -/
theorem Grid.put {H H' : Hp} {R m : Addr} {ls : List Addr} {rows : List (List Int)} {j : Nat} {r' : List Int} (g : Grid H R ls rows) (s : Same H H') (nm : H m = none) (hm : H' m = some (.lst (r'.map V.int))) (hj : j < rows.length) :
    Grid (upd H' R (.lst ((ls.map V.ref).set j (.ref m)))) R (ls.set j m) (rows.set j r') := by
  have ml : m ∉ ls := fun q => by
    obtain ⟨x, hx⟩ := g.is q
    rw [nm] at hx
    cases hx
  have mR : m ≠ R := (ne_of_none g.rr nm).symm
  refine ⟨?_, ?_, ?_, ?_, ?_⟩
  · rw [upd_same, List.map_set]
  · exact nodup_set g.nd ml
  · rw [List.length_set, List.length_set, g.len]
  · intro i l r hl hr
    by_cases e : j = i
    · subst e
      rw [List.getElem?_set_self (by rw [g.len]; exact hj)] at hl
      rw [List.getElem?_set_self hj] at hr
      cases hl
      cases hr
      rw [upd_ne mR]
      exact hm
    · rw [List.getElem?_set_ne e] at hl hr
      rw [upd_ne (fun (q : l = R) => g.nR (q ▸ List.mem_of_getElem? hl))]
      exact s _ _ (g.row i l r hl hr)
  · intro q
    rcases List.mem_or_eq_of_mem_set q with q | q
    · exact g.nR q
    · exact mR q.symm
theorem Grid.less {H H' : Hp} {R T : Addr} {ls : List Addr} {rows : List (List Int)} {j : Nat} (g : Grid H R ls rows) (s : Same H H') (nT : H T = none) (hT : H' T = some (.lst ((ls.map V.ref).take j ++ (ls.map V.ref).drop (j + 1)))) :
    Grid H' T (ls.eraseIdx j) (rows.eraseIdx j) := by
  refine ⟨?_, List.Nodup.sublist (List.eraseIdx_sublist ..) g.nd, ?_, ?_, ?_⟩
  · rw [hT, List.eraseIdx_eq_take_drop_succ, List.map_append, List.map_take, List.map_drop]
  · rw [List.length_eraseIdx, List.length_eraseIdx, g.len]
  · intro i l r hl hr
    rw [List.getElem?_eraseIdx] at hl hr
    split at hl
    · rename_i h
      rw [if_pos h] at hr
      exact s _ _ (g.row i l r hl hr)
    · rename_i h
      rw [if_neg h] at hr
      exact s _ _ (g.row (i + 1) l r hl hr)
  · intro m
    obtain ⟨x, hx⟩ := g.is (List.mem_of_mem_eraseIdx m)
    rw [nT] at hx
    cases hx
theorem Grid.more {H H' : Hp} {R T m : Addr} {ls : List Addr} {rows : List (List Int)} {r' : List Int} (g : Grid H R ls rows) (s : Same H H') (nT : H T = none) (nm : H m = none) (mT : m ≠ T) (hm : H' m = some (.lst (r'.map V.int))) (hT : H' T = some (.lst (ls.map V.ref ++ [.ref m]))) :
    Grid H' T (ls ++ [m]) (rows ++ [r']) := by
  have ml : m ∉ ls := fun q => by
    obtain ⟨x, hx⟩ := g.is q
    rw [nm] at hx
    cases hx
  refine ⟨?_, ?_, ?_, ?_, ?_⟩
  · rw [hT, List.map_append]
    rfl
  · rw [List.nodup_append]
    exact ⟨g.nd, by simp, fun a ha b hb => by
      rw [List.mem_singleton] at hb
      subst hb
      exact fun z => ml (z ▸ ha)⟩
  · rw [List.length_append, List.length_append, g.len]
    rfl
  · intro j l r hl hr
    by_cases hj : j < ls.length
    · rw [List.getElem?_append_left hj] at hl
      rw [List.getElem?_append_left (by rw [← g.len]; exact hj)] at hr
      exact s _ _ (g.row j l r hl hr)
    · rw [List.getElem?_append_right (by omega)] at hl
      rw [List.getElem?_append_right (by rw [← g.len]; omega)] at hr
      have e0 : j - ls.length = 0 := by
        have := (List.getElem?_eq_some_iff.mp hl).1
        simp at this
        omega
      rw [← g.len] at hr
      rw [e0] at hl hr
      cases hl
      cases hr
      exact hm
  · intro q
    rcases List.mem_append.mp q with q | q
    · obtain ⟨x, hx⟩ := g.is q
      rw [nT] at hx
      cases hx
    · exact mT (List.mem_singleton.mp q).symm
theorem fits_long {S W i : Int} {r : List Int} (h : (r.length : Int) > W) : fitsB S W i r = false := by
  unfold fitsB
  rw [decide_eq_true h]
  rfl
theorem fits_twice {S W i x : Int} : fitsB S W i [x, x] = false := by
  unfold fitsB
  rw [distinct_two, decide_eq_true (show ((1 : Nat) : Int) < (([x, x] : List Int).length : Int) by show (1 : Int) < 2; decide), Bool.or_true]
  rfl
theorem fits_one {S W i x : Int} (h : ¬ (0 ≤ x ∧ x ≤ 16383 ∧ x % S = i)) : fitsB S W i [x] = false := by
  unfold fitsB
  have e : ([x].all fun x => (decide (0 ≤ x) && decide (x ≤ 16383)) && decide (x % S = i)) = false := by
    rw [List.all_cons, List.all_nil, Bool.and_true]
    by_cases h1 : 0 ≤ x
    · by_cases h2 : x ≤ 16383
      · rw [decide_eq_false (fun h3 => h ⟨h1, h2, h3⟩), Bool.and_false]
      · rw [decide_eq_false h2, Bool.and_false, Bool.false_and]
    · rw [decide_eq_false h1, Bool.false_and, Bool.false_and]
  rw [e, Bool.and_false]
def sp__law_spoilt : Sp := fun vs H Q _ => ∃ (p c G : Addr) (gs : List Addr) (S W : Int) (rows : List (List Int)), vs = [.ref p, .ref G, .int W] ∧ StOk H p c ∧ Grid H G gs rows ∧ G ≠ p ∧ p ∉ gs ∧ GoodRows S W rows ∧ (∀ r ∈ rows, r.length ≤ 4) ∧ 1 ≤ S ∧ S ≤ 64 ∧ 1 ≤ W ∧ W ≤ 4 ∧
  ∀ (H' : Hp) (B : Addr) (bs : List Addr) (bad : List (List Int)), Grid H' B bs bad → BadRows S W bad → (∀ r ∈ bad, r.length < 64) → bad.length ≤ 1000 → StOk H' p c → Keep p H H' → Q (.ref B) H'
theorem ok__law_spoilt (T : Top P K mg) : FnOk P w K mg base CX0 2 T.a__law_spoilt T.d__law_spoilt ["state", "rows", "ways"]  sp__law_spoilt := by
  refine T.F__law_spoilt.ok sc__law_spoilt (fun vs H Q E h => ?_) (fun cdv A outer s H vs Q E hr h => ?_)
  · obtain ⟨_, _, _, _, _, _, _, rfl, _⟩ := h
    rfl
  · obtain ⟨p, c, G, gs, S, W, rows, rfl, st, g, Gp, pg, good, r4, s1, s2, w1, w2, q⟩ := h
    refine ⟨_, (pss_cons (ps_set (i := 3) sc__law_spoilt.nd rfl (by first | exact Or.inl rfl | exact Or.inr rfl) (pe_callB call_len_seq (by rfl) T.m_len PySem.boot_len (pa_cons (pv 1) pa_nil)))
  (pss_cons (ps_set (i := 4) sc__law_spoilt.nd rfl (by first | exact Or.inl rfl | exact Or.inr rfl) (pe_call (ok__law_draw T) (hr.mono (by decide)) (by rfl) T.g__law_draw T.F__law_draw.kp T.b__law_draw .nil pass0 (pa_cons (pv 0) (pa_cons (pv 3) pa_nil))))
  (pss_cons (ps_setLc (i := 5) (own := [("row", 6)]) (g := gName 6) (tt := tYes) rfl sc__law_spoilt.nd rfl rfl (sw_true rfl rfl rfl (by decide +kernel)) (pi_list (pv 1)) (blkOk_by (N := ["state", "rows", "ways", "sets", "at", "copy", "row", "turn", "k"]) (sc := defScope s__law_spoilt) (by decide +kernel)) (fun _ _ _ _ _ => pg_name (i := 6) sc__law_spoilt.nd rfl (Or.inl rfl)) (fun _ _ _ _ _ => pts_nil) (fun _ _ _ _ _ => (pe_callTy (show CallR _ (Value.type "list") (rListOf K) from call_list_of) (by rfl) T.m_list (by decide +kernel) (pa_cons (pv 6) pa_nil))))
  (pss_cons (ps_set (i := 7) sc__law_spoilt.nd rfl (by first | exact Or.inl rfl | exact Or.inr rfl) (pe_call (ok__law_draw T) (hr.mono (by decide)) (by rfl) T.g__law_draw T.F__law_draw.kp T.b__law_draw .nil pass0 (pa_cons (pv 0) (pa_cons pe_int pa_nil))))
  (pss_cons (ps_if (pt_cmpR op_eq (pv 7) pe_int (nomark _))
  (pss_one (ps_ret (pe_op op_cat (pe_slice sl_list (pv 5) po_none (po_some (pv 4))) (pe_slice sl_list (pv 5) (po_some (pe_op op_add (pv 4) pe_int)) po_none))))
  pss_nil)
  (pss_cons (ps_if (pt_cmpR op_eq (pv 7) pe_int (nomark _))
  (pss_one (ps_ret (pe_op op_cat (pv 5) (pe_lst (pa_cons (pe_lst pa_nil) pa_nil)))))
  pss_nil)
  (pss_cons (ps_if (pt_cmpR op_eq (pv 7) pe_int (nomark _))
  (pss_one (ps_asg (pe_lc (own := [("k", 8)]) (g := gName 8) (tt := tYes) rfl sc__law_spoilt.nd (pi_range1 (by rfl) T.m_range (pa_cons (pe_op op_add (pv 2) pe_int) pa_nil)) (blkOk_by (N := ["state", "rows", "ways", "sets", "at", "copy", "row", "turn", "k"]) (sc := defScope s__law_spoilt) (by decide +kernel)) (fun _ _ _ _ _ => pg_name (i := 8) sc__law_spoilt.nd rfl (Or.inl rfl)) (fun _ _ _ _ _ => pts_nil) (fun _ _ _ _ _ => (pe_op op_add (pv 4) (pe_op op_mul (pv 3) (pv 8))))) (pg_sub (pv 5) (pv 4) set_list)))
  (pss_one (ps_if (pw_and (pt_cmpR op_eq (pv 7) pe_int (nomark _)) (pw_and1 (pt_cmpR op_gt (pv 2) pe_int (nomark _)))).pt
  (pss_one (ps_asg (pe_lst (pa_cons (pv 4) (pa_cons (pv 4) pa_nil))) (pg_sub (pv 5) (pv 4) set_list)))
  (pss_one (ps_if (pw_and (pt_cmpR op_eq (pv 7) pe_int (nomark _)) (pw_and1 (pt_cmpR op_gt (pv 3) pe_int (nomark _)))).pt
  (pss_one (ps_asg (pe_lst (pa_cons (pe_op op_mod (pe_callTy call_int1 (by rfl) T.m_int (by decide +kernel) (pa_cons (pe_op op_add (pv 4) pe_int) pa_nil)) (pv 3)) pa_nil)) (pg_sub (pv 5) (pv 4) set_list)))
  (pss_one (ps_if (pt_cmpR op_eq (pv 7) pe_int (nomark _))
  (pss_one (ps_asg (pe_lst (pa_cons (pe_op op_sub (pv 4) (pv 3)) pa_nil)) (pg_sub (pv 5) (pv 4) set_list)))
  (pss_one (ps_asg (pe_lst (pa_cons (pe_op op_add (pv 4) (pe_op op_mul (pv 3) (pe_op op_fdiv (pe_op op_sub (pe_op op_add (pe_op op_sub pe_int (pv 4)) (pv 3)) pe_int) (pv 3)))) pa_nil)) (pg_sub (pv 5) (pv 4) set_list))))))))))
  (pss_one (ps_ret (pv 5)))))))))), ?_⟩
    have eS := good.1
    refine ⟨_, rfl, G, _, rfl, .inl (SqL.of g.rr), ?_⟩
    show gName 3 (V.int (((gs.map V.ref).length : Nat) : Int)) _ _ _
    rw [List.length_map, g.len, eS]
    refine ⟨_, rfl, _, rfl, p, c, S, rfl, st, by omega, by omega, fun a0 H1 a1 a2 st1 k1 => ?_⟩
    obtain ⟨a, rfl⟩ : ∃ a : Nat, a0 = a := ⟨a0.toNat, by omega⟩
    have ga := g.keep k1 Gp pg
    have al : a < rows.length := by omega
    refine ⟨_, rfl, G, rfl, ⟨_, SqL.of ga.rr⟩, fun D nD => ?_⟩
    refine lc_list (xs := gs.map V.ref) (CopyInv H1 D rows) (CopyInv.zero nD) (fun i H' _ ci => SqL.of (ci.same _ _ ga.rr)) ?_ ?_
    · intro i v H' hv ci
      obtain ⟨l, hl, rfl⟩ : ∃ l, gs[i]? = some l ∧ V.ref l = v := by
        rw [List.getElem?_map] at hv
        cases e : gs[i]? with
        | none => rw [e] at hv; cases hv
        | some l => rw [e] at hv; exact ⟨l, rfl, Option.some.inj hv⟩
      obtain ⟨r, hr2, hH⟩ := ga.get' hl
      refine ⟨rfl, ?_⟩
      refine ⟨_, rfl, l, _, rfl, .inl (SqL.of (ci.same _ _ hH)), fun m hm => ?_⟩
      obtain ⟨ys, y1, yl, y3⟩ := ci.step nD hm hr2
      have il : i < rows.length := (List.getElem?_eq_some_iff.mp hr2).1
      exact ⟨ys, y1, small1000 (by omega), y3⟩
    · intro H2 ci
      rw [List.length_map, g.len] at ci
      obtain ⟨ls, g2, f2, s12⟩ := ci.done nD
      have st2 := st1.same s12
      refine ⟨_, rfl, p, c, 7, rfl, st2, by decide, by decide, fun t H3 t0 t1 st3 k3 => ?_⟩
      obtain ⟨⟨_, hp1⟩, _⟩ := st1.there
      have Dp : D ≠ p := fun e => by rw [← e, nD] at hp1; cases hp1
      have pl : p ∉ ls := fun m => by rw [f2.2 p m] at hp1; cases hp1
      have g3 := g2.keep k3 Dp pl
      have k13 : Keep p H H3 := k1.trans ((Keep.same s12).trans k3)
      have nDH : H D = none := by
        have := k1.free st1 nD
        exact this
      have fin : ∀ (H4 : Hp) (m : Addr) (r' : List Int), H4 m = some (.lst (r'.map V.int)) → H3 m = none → Same H3 H4 → r'.length < 64 → fitsB S W (a : Int) r' = false →
          Q (.ref D) (upd H4 D (.lst ((ls.map V.ref).set a (.ref m)))) := fun H4 m r' hm nm s4 hl hf => by
        refine q _ D (ls.set a m) (rows.set a r') (g3.put s4 nm hm al) (.inr ⟨a, r', by rw [List.getElem?_set_self al], hf⟩) ?_ ?_ ((st3.same s4).off st nDH) ((k13.trans (Keep.same s4)).off nDH)
        · intro r hr
          rcases List.mem_or_eq_of_mem_set hr with hr | rfl
          · have := r4 r hr
            omega
          · exact hl
        · rw [List.length_set]
          omega
      have ixa : ixN (ls.map V.ref).length (a : Int) = some a := Evl.ixN_nat (by rw [List.length_map, g2.len]; exact al)
      refine ⟨_, rfl, rfl, _, rfl, ite2 (fun c0 => ?_) (fun c0 => ?_)⟩
      · -- one row less
        refine ⟨_, rfl, _, rfl, _, rfl, D, _, rfl, SqL.of g3.rr, fun P1 n1 => ?_⟩
        have sa := same_new (o := .lst (cutV (ls.map V.ref) none (some (a : Int)))) n1
        refine ⟨_, rfl, _, rfl, _, _, rfl, rfl, _, rfl, D, _, rfl, SqL.of (sa _ _ g3.rr), fun P2 n2 => ?_⟩
        have e1 : cutV (ls.map V.ref) none (some (a : Int)) = (ls.map V.ref).take a := cut_to (by rw [List.length_map, g2.len]; omega)
        have e2 : cutV (ls.map V.ref) (some ((a : Int) + 1)) none = (ls.map V.ref).drop (a + 1) := cut_from (a := a + 1) (by rw [List.length_map, g2.len]; omega)
        rw [e1] at n2 ⊢
        have P12 : P1 ≠ P2 := ne_of_none upd_same n2
        have sb := same_new (o := .lst (cutV (ls.map V.ref) (some ((a : Int) + 1)) none)) n2
        refine ⟨P1, P2, _, _, rfl, rfl, by rw [upd_ne P12]; exact upd_same, upd_same, ?_, fun P3 n3 => ?_⟩
        · have l1 := cutV_length (ls.map V.ref) (some ((a : Int) + 1)) none
          rw [List.length_take, List.length_map, g2.len] at *
          exact Nat.le_of_lt (small1000 (by omega))
        · have sc := same_new (o := .lst ((ls.map V.ref).take a ++ cutV (ls.map V.ref) (some ((a : Int) + 1)) none)) n3
          have s3 := (same_new (o := .lst ((ls.map V.ref).take a)) n1).trans (sb.trans sc)
          refine q _ P3 (ls.eraseIdx a) (rows.eraseIdx a) (g3.less s3 (((same_new n1).trans sb).free n3) ?_) (.inl ?_) ?_ ?_ (st3.same s3) (k13.trans (Keep.same s3))
          · rw [upd_same, e2]
          · rw [List.length_eraseIdx, if_pos al]
            omega
          · intro r hr
            have := r4 r (List.mem_of_mem_eraseIdx hr)
            omega
          · rw [List.length_eraseIdx, if_pos al]
            omega
      · refine ⟨_, rfl, rfl, _, rfl, ite2 (fun c1 => ?_) (fun c1 => ?_)⟩
        · -- one row more
          refine ⟨_, rfl, Nat.zero_le _, fun m nm => ⟨by show 1 ≤ sizeLine; decide, fun P1 n1 => ?_⟩⟩
          have sa := same_new (o := .lst []) nm
          have sb := same_new (o := .lst [V.ref m]) n1
          refine ⟨D, P1, _, _, rfl, rfl, sb _ _ (sa _ _ g3.rr), upd_same, ?_, fun P3 n3 => ?_⟩
          · rw [List.length_map, g2.len]
            exact Nat.le_of_lt (small1000 (by simp; omega))
          · have sc := same_new (o := .lst (ls.map V.ref ++ [V.ref m])) n3
            have s3 := sa.trans (sb.trans sc)
            have mP : m ≠ P3 := ne_of_none (sb _ _ upd_same) n3
            refine q _ P3 (ls ++ [m]) (rows ++ [[]]) (g3.more s3 ((sa.trans sb).free n3) nm mP (sc _ _ (sb _ _ upd_same)) upd_same) (.inl ?_) ?_ ?_ (st3.same s3) (k13.trans (Keep.same s3))
            · rw [List.length_append, List.length_singleton]
              omega
            · intro r hr
              rcases List.mem_append.mp hr with hr | hr
              · have := r4 r hr
                omega
              · rw [List.mem_singleton.mp hr]
                decide
            · rw [List.length_append, List.length_singleton]
              omega
        · have s0 : 0 < S := by omega
          refine ⟨_, rfl, rfl, _, rfl, ite2 (fun c2 => ?_) (fun c2 => ?_)⟩
          · -- a row that is too long
            refine ⟨_, rfl, _, _, rfl, rfl, W + 1, rfl, (by omega), (by omega), fun m nm => ?_⟩
            refine lc_range (n := (W + 1).toNat) (fun i H' => Same H3 H' ∧ H' m = some (.lst (((List.range i).map fun k : Nat => (a : Int) + S * (0 + (k : Int))).map V.int))) ⟨same_new nm, upd_same⟩ ?_ ?_
            · rintro i H' hi ⟨s4, hm⟩
              refine ⟨rfl, ?_⟩
              refine ⟨_, rfl, _, rfl, _, rfl, _, _, rfl, rfl, .inl ⟨by omega, by omega⟩, _, _, rfl, rfl, _, hm, ?_, ?_, ?_⟩
              · rw [List.length_map, List.length_map, List.length_range]
                exact small1000 (by omega)
              · intro b x e
                rw [upd_ne (ne_of_none e nm)]
                exact s4 b x e
              · rw [upd_same, List.range_succ, List.map_append, List.map_append]
                rfl
            · rintro H' ⟨s4, hm⟩
              refine ⟨_, rfl, _, rfl, D, _, _, _, rfl, rfl, s4 _ _ g3.rr, ixa, ?_⟩
              refine ⟨_, rfl, ?_⟩
              refine fin H' m _ hm nm s4 ?_ (fits_long ?_)
              · rw [List.length_map, List.length_range]
                omega
              · rw [List.length_map, List.length_range]
                omega
          · have done : ∀ (m : Addr) (r' : List Int), H3 m = none → r'.length < 64 → fitsB S W (a : Int) r' = false → Q (.ref D) (upd (upd H3 m (.lst (r'.map V.int))) D (.lst ((ls.map V.ref).set a (.ref m)))) := fun m r' nm hl hf =>
              fin _ m r' upd_same nm (same_new nm) hl hf
            have gD : ∀ m x, H3 m = none → (upd H3 m x) D = some (.lst (ls.map V.ref)) := fun m x nm => by
              rw [upd_ne (ne_of_none g3.rr nm)]
              exact g3.rr
            refine if_and (a := decide (V.int t = V.int 3)) (b := decide (W > 1)) (fun Q' q' => ⟨_, rfl, rfl, _, rfl, q'⟩) (fun _ Q' q' => ⟨_, rfl, _, _, rfl, rfl, _, rfl, q'⟩) (ite2 (fun c3 => ?_) (fun c3 => ?_))
            · refine ⟨_, rfl, _, rfl, by show 2 ≤ sizeLine; decide, fun m nm => ?_⟩
              refine ⟨_, rfl, _, rfl, D, _, _, _, rfl, rfl, gD m _ nm, ixa, ?_⟩
              exact ⟨_, rfl, done m [(a : Int), (a : Int)] nm (by simp) fits_twice⟩
            · refine if_and (a := decide (V.int t = V.int 4)) (b := decide (S > 1)) (fun Q' q' => ⟨_, rfl, rfl, _, rfl, q'⟩) (fun _ Q' q' => ⟨_, rfl, _, _, rfl, rfl, _, rfl, q'⟩) (ite2 (fun c4 => ?_) (fun c4 => ?_))
              · rw [Bool.and_eq_true, decide_eq_true_eq, decide_eq_true_eq] at c4
                refine ⟨_, rfl, _, _, rfl, rfl, .inl ⟨_, rfl, _, rfl, _, _, rfl, rfl, s0, by show 1 ≤ sizeLine; decide, fun m nm => ?_⟩⟩
                refine ⟨_, rfl, _, rfl, D, _, _, _, rfl, rfl, gD m _ nm, ixa, ?_⟩
                refine ⟨_, rfl, done m [((a : Int) + 1) % S] nm (by simp) (fits_one ?_)⟩
                rintro ⟨_, _, h3⟩
                rw [Int.emod_emod_of_dvd _ (Int.dvd_refl S)] at h3
                by_cases l : (a : Int) + 1 < S
                · rw [Int.emod_eq_of_lt (by omega) l] at h3
                  omega
                · have e : (a : Int) + 1 = S := by omega
                  rw [e, Int.emod_self] at h3
                  omega
              · refine ⟨_, rfl, rfl, _, rfl, ite2 (fun c5 => ?_) (fun c5 => ?_)⟩
                · refine ⟨_, rfl, _, rfl, _, _, rfl, rfl, by show 1 ≤ sizeLine; decide, fun m nm => ?_⟩
                  refine ⟨_, rfl, _, rfl, D, _, _, _, rfl, rfl, gD m _ nm, ixa, ?_⟩
                  refine ⟨_, rfl, done m [(a : Int) - S] nm (by simp) (fits_one ?_)⟩
                  rintro ⟨h1, _⟩
                  omega
                · refine ⟨_, rfl, _, rfl, _, rfl, _, _, rfl, rfl, _, rfl, _, _, rfl, rfl, _, _, rfl, rfl, _, rfl, _, _, rfl, rfl, ⟨by omega, by omega⟩, _, _, rfl, rfl, .inl ⟨by omega, by omega⟩, _, _, rfl, rfl, by show 1 ≤ sizeLine; decide, fun m nm => ?_⟩
                  refine ⟨_, rfl, _, rfl, D, _, _, _, rfl, rfl, gD m _ nm, ixa, ?_⟩
                  refine ⟨_, rfl, done m [(a : Int) + S * ((16384 - (a : Int) + S - 1) / S)] nm (by simp) (fits_one ?_)⟩
                  rintro ⟨_, h2, _⟩
                  have h := Int.lt_mul_ediv_self_add (x := 16384 - (a : Int) + S - 1) s0
                  omega
end

section
variable {P : Program} {w : World} {K : PySem.W.Frag} {mg : Str → Option Value} {base : Heap}
/-! ### the rows as data -/
theorem at_any {xs : List V} {v : Int} {n : Nat} (h0 : 0 ≤ v) (h1 : v < n) (hn : n = xs.length) : ∃ (k : Nat) (y : V), v = (k : Int) ∧ xs[k]? = some y ∧ y ∈ xs := by
  have hk : v.toNat < xs.length := by omega
  exact ⟨v.toNat, xs[v.toNat], by omega, List.getElem?_eq_getElem hk, List.getElem_mem hk⟩
theorem rev_at {us : List Int} {k : Nat} (h : k < us.length) : us.reverse[k]? = us[us.length - 1 - k]? := List.getElem?_reverse h
def rowD (r : List Int) : PyData := .list (r.map PyData.int)
def rowsD (rows : List (List Int)) : PyData := .list (rows.map rowD)
theorem dps_ints {H : Hp} : ∀ r : List Int, DpAll K H (r.map V.int) (r.map PyData.int)
  | [] => .nil
  | x :: r => .cons (.int x) (dps_ints r)
theorem lay_ints : ∀ r : List Int, PyData.canLayAll0 (r.map PyData.int) = true ∧ PyData.depthAll (r.map PyData.int) ≤ 1
  | [] => ⟨rfl, by decide⟩
  | x :: r => by
    obtain ⟨h1, h2⟩ := lay_ints r
    refine ⟨?_, ?_⟩
    · simp only [List.map_cons, PyData.canLayAll0, PyData.canLay0, Bool.true_and]
      exact h1
    · simp only [List.map_cons, PyData.depthAll, PyData.depth]
      omega
theorem lay_rows : ∀ rows : List (List Int), PyData.canLayAll0 (rows.map rowD) = true ∧ PyData.depthAll (rows.map rowD) ≤ 2
  | [] => ⟨rfl, by decide⟩
  | r :: rows => by
    obtain ⟨h1, h2⟩ := lay_rows rows
    obtain ⟨h3, h4⟩ := lay_ints r
    refine ⟨?_, ?_⟩
    · simp only [List.map_cons, PyData.canLayAll0, PyData.canLay0, rowD, h3, Bool.true_and]
      exact h1
    · simp only [List.map_cons, PyData.depthAll, PyData.depth, rowD]
      omega
theorem rows_lay (rows : List (List Int)) : (rowsD rows).canLay0 = true := by
  simp only [rowsD, PyData.canLay0]
  exact (lay_rows rows).1
theorem rows_shaped (rows : List (List Int)) : SeqAt.shaped (rowsD rows) = true := by
  unfold SeqAt.shaped
  rw [rows_lay, Bool.true_and]
  refine decide_eq_true ?_
  have := (lay_rows rows).2
  simp only [rowsD, PyData.depth]
  omega
theorem rows_eqv (rows : List (List Int)) : PyData.eqv (rowsD rows) (rowsD rows) = true := PySem.SeqAt.eqv_refl _ (rows_lay rows)
theorem dps_rows {H : Hp} : ∀ {ls : List Addr} {rows : List (List Int)}, ls.length = rows.length → (∀ (i : Nat) (l : Addr) (r : List Int), ls[i]? = some l → rows[i]? = some r → H l = some (.lst (r.map V.int))) → DpAll K H (ls.map V.ref) (rows.map rowD)
  | [], [], _, _ => .nil
  | [], _ :: _, h, _ => nomatch h
  | _ :: _, [], h, _ => nomatch h
  | l :: ls, r :: rows, h, g => .cons (.lst (SqL.of (g 0 l r rfl rfl)) (dps_ints r)) (dps_rows (Nat.succ.inj h) fun i l2 r2 h1 h2 => g (i + 1) l2 r2 h1 h2)
theorem Grid.dp {H : Hp} {R : Addr} {ls : List Addr} {rows : List (List Int)} (g : Grid H R ls rows) : Dp K H (.ref R) (rowsD rows) := .lst (SqL.of g.rr) (dps_rows g.len g.row)
theorem Grid.off {H : Hp} {R a : Addr} {x : HO} {ls : List Addr} {rows : List (List Int)} (g : Grid H R ls rows) (h1 : R ≠ a) (h2 : a ∉ ls) : Grid (upd H a x) R ls rows :=
  ⟨by rw [upd_ne h1]; exact g.rr, g.nd, g.len, fun i l r hl hr => by rw [upd_ne (fun (e : l = a) => h2 (e ▸ List.mem_of_getElem? hl))]; exact g.row i l r hl hr, g.nR⟩
/-- all of it stands apart from a -/
structure Apart (a R : Addr) (ls : List Addr) : Prop where
  h1 : R ≠ a
  h2 : a ∉ ls
theorem Fresh.apart {H : Hp} {R a : Addr} {ls : List Addr} {x : HO} (f : Fresh H R ls) (h : H a = some x) : Apart a R ls :=
  ⟨fun e => (by rw [← e, f.1] at h; cases h), fun m => (by rw [f.2 a m] at h; cases h)⟩
theorem Grid.apartN {H : Hp} {R a : Addr} {ls : List Addr} {rows : List (List Int)} (g : Grid H R ls rows) (h : H a = none) : Apart a R ls :=
  ⟨ne_of_none g.rr h, fun m => (by obtain ⟨x, hx⟩ := g.is m; rw [h] at hx; cases hx)⟩
theorem Grid.apartO {C : Addr} {H : Hp} {R a dx : Addr} {fs : List (Str × V)} {ls : List Addr} {rows : List (List Int)} (g : Grid H R ls rows) (h : H a = some (.ins C dx fs)) : Apart a R ls :=
  ⟨ne_of g.rr h (by intro q; cases q), fun m => by
    obtain ⟨j, hj⟩ := List.getElem?_of_mem m
    obtain ⟨r, _, hx⟩ := g.get' hj
    rw [h] at hx
    cases hx⟩
theorem CacheAt.keep {C p : Addr} {H H' : Hp} {o R : Addr} {ls : List Addr} {S W z : Int} {rows : List (List Int)} (c : CacheAt C H o R ls S W z rows) (k : Keep p H H') (h : Apart p R ls) (ho : o ≠ p) : CacheAt C H' o R ls S W z rows := by
  obtain ⟨⟨dx, hx⟩, g, e⟩ := c
  exact ⟨⟨dx, k _ _ ho hx⟩, g.keep k h.h1 h.h2, e⟩
theorem CacheAt.off {C a : Addr} {H : Hp} {x : HO} {o R : Addr} {ls : List Addr} {S W z : Int} {rows : List (List Int)} (c : CacheAt C H o R ls S W z rows) (h : Apart a R ls) (ho : o ≠ a) : CacheAt C (upd H a x) o R ls S W z rows := by
  obtain ⟨⟨dx, hx⟩, g, e⟩ := c
  exact ⟨⟨dx, by rw [upd_ne ho]; exact hx⟩, g.off h.h1 h.h2, e⟩
theorem StOk.put {C p c o dx : Addr} {fs : List (Str × V)} {H H' : Hp} (s : StOk H p c) (k : Put o H H') (ho : H o = some (.ins C dx fs)) : StOk H' p c := by
  obtain ⟨ms, kk, v, sd, h1, h2, h3, h⟩ := s
  exact ⟨ms, kk, v, sd, h1, k _ _ (ne_of h2 ho (by intro q; cases q)) h2, k _ _ (ne_of h3 ho (by intro q; cases q)) h3, h⟩
theorem Grid.put' {C o dx : Addr} {fs : List (Str × V)} {H H' : Hp} {R : Addr} {ls : List Addr} {rows : List (List Int)} (g : Grid H R ls rows) (k : Put o H H') (ho : H o = some (.ins C dx fs)) : Grid H' R ls rows := by
  have a := g.apartO ho
  exact ⟨k _ _ a.h1 g.rr, g.nd, g.len, fun i l r hl hr => k _ _ (fun e => a.h2 (e ▸ List.mem_of_getElem? hl)) (g.row i l r hl hr), g.nR⟩
theorem good_len {S W : Int} {rows : List (List Int)} (g : GoodRows S W rows) (hw : W ≤ 4) : ∀ r ∈ rows, r.length ≤ 4 := fun r m => by
  obtain ⟨i, hi⟩ := List.getElem?_of_mem m
  have h := g.2 i r hi
  by_cases c : (r.length : Int) > W
  · rw [fits_long c] at h
    cases h
  · omega
theorem small_of {n : Int} (h1 : -1 ≤ n) (h2 : n ≤ 1000) : small n := ⟨h1, h2⟩
def sp_law (K : PySem.W.Frag) : Sp := fun vs H Q _ => ∃ (a : Addr) (ns : List Int), vs = [.ref a] ∧ SqL K H a (ns.map V.int) ∧ ns.length ≤ 63 ∧ ∀ H', Q (.bl true) H'
theorem ok_law (T : Top P K mg) : FnOk P w K mg base CX0 7 T.a_law T.d_law ["script"]  (sp_law K) := by
  refine T.F_law.ok sc_law (fun vs H Q E h => ?_) (fun cdv A outer s H vs Q E hr h => ?_)
  · obtain ⟨_, _, rfl, _⟩ := h
    rfl
  · obtain ⟨l, ns, rfl, hS, hlen, q⟩ := h
    refine ⟨_, (pss_cons (ps_set (i := 1) sc_law.nd rfl (by first | exact Or.inl rfl | exact Or.inr rfl) (pe_call (ok__law_start T) (hr.mono (by decide)) (by rfl) T.g__law_start T.F__law_start.kp T.b__law_start .nil pass0 (pa_cons (pv 0) pa_nil)))
  (pss_cons (ps_set (i := 2) sc_law.nd rfl (by first | exact Or.inl rfl | exact Or.inr rfl) (pe_ix ix_list (pe_lst (pa_cons (pe_op op_sub (pe_call (ok__law_draw T) (hr.mono (by decide)) (by rfl) T.g__law_draw T.F__law_draw.kp T.b__law_draw .nil pass0 (pa_cons (pv 1) (pa_cons pe_int pa_nil))) pe_int) (pa_cons (pe_op op_add pe_int (pe_call (ok__law_draw T) (hr.mono (by decide)) (by rfl) T.g__law_draw T.F__law_draw.kp T.b__law_draw .nil pass0 (pa_cons (pv 1) (pa_cons pe_int pa_nil)))) (pa_cons pe_int pa_nil)))) (pe_call (ok__law_draw T) (hr.mono (by decide)) (by rfl) T.g__law_draw T.F__law_draw.kp T.b__law_draw .nil pass0 (pa_cons (pv 1) (pa_cons pe_int pa_nil))) (fun _ _ => rfl)))
  (pss_cons (ps_set (i := 3) sc_law.nd rfl (by first | exact Or.inl rfl | exact Or.inr rfl) (pe_ix ix_list (pe_lst (pa_cons (pe_op op_sub (pe_call (ok__law_draw T) (hr.mono (by decide)) (by rfl) T.g__law_draw T.F__law_draw.kp T.b__law_draw .nil pass0 (pa_cons (pv 1) (pa_cons pe_int pa_nil))) pe_int) (pa_cons (pe_op op_add pe_int (pe_call (ok__law_draw T) (hr.mono (by decide)) (by rfl) T.g__law_draw T.F__law_draw.kp T.b__law_draw .nil pass0 (pa_cons (pv 1) (pa_cons pe_int pa_nil)))) pa_nil))) (pe_call (ok__law_draw T) (hr.mono (by decide)) (by rfl) T.g__law_draw T.F__law_draw.kp T.b__law_draw .nil pass0 (pa_cons (pv 1) (pa_cons pe_int pa_nil))) (fun _ _ => rfl)))
  (pss_cons (ps_set (i := 4) sc_law.nd rfl (by first | exact Or.inl rfl | exact Or.inr rfl) (pe_ix ix_list (pe_lst (pa_cons (pe_op op_sub (pe_call (ok__law_draw T) (hr.mono (by decide)) (by rfl) T.g__law_draw T.F__law_draw.kp T.b__law_draw .nil pass0 (pa_cons (pv 1) (pa_cons pe_int pa_nil))) pe_int) (pa_cons (pe_ix ix_list (pe_lst (pa_cons pe_int (pa_cons pe_int (pa_cons pe_int (pa_cons pe_int (pa_cons pe_int pa_nil)))))) (pe_call (ok__law_draw T) (hr.mono (by decide)) (by rfl) T.g__law_draw T.F__law_draw.kp T.b__law_draw .nil pass0 (pa_cons (pv 1) (pa_cons pe_int pa_nil))) (fun _ _ => rfl)) pa_nil))) (pe_call (ok__law_draw T) (hr.mono (by decide)) (by rfl) T.g__law_draw T.F__law_draw.kp T.b__law_draw .nil pass0 (pa_cons (pv 1) (pa_cons pe_int pa_nil))) (fun _ _ => rfl)))
  (pss_cons (ps_set (i := 5) sc_law.nd rfl (by first | exact Or.inl rfl | exact Or.inr rfl) (pe_call (ok__law_made T) (hr.mono (by decide)) (by rfl) T.g__law_made T.F__law_made.kp T.b__law_made .nil pass0 (pa_cons (pv 2) (pa_cons (pv 3) (pa_cons (pv 4) pa_nil)))))
  (pss_cons (ps_set (i := 6) sc_law.nd rfl (by first | exact Or.inl rfl | exact Or.inr rfl) (pe_and (pe_cmpR op_le pe_int (pv 2) (nomark _)) (pe_and (pe_cmpR op_le (pv 2) pe_int (nomark _)) (pe_and (pe_cmpR op_le pe_int (pv 3) (nomark _)) (pe_and (pe_cmpR op_le (pv 3) pe_int (nomark _)) (pe_one (pe_cmpR op_in_seq (pv 4) (pe_tup (pa_cons pe_int (pa_cons pe_int (pa_cons pe_int (pa_cons pe_int (pa_cons pe_int pa_nil)))))) (by with_unfolding_all rfl))))))))
  (pss_cons (ps_if (pt_not (pt_val (pv 6)))
  (pss_one (ps_ret (pe_cmpR op_isN (pv 5) pe_non (nomark _))))
  pss_nil)
  (pss_cons (ps_if (pw_or (pt_cmpR op_isN (pv 5) pe_non (nomark _)) (pw_or (pt_cmpR (op_eqOI T.eq_Cache hr.units0) (pv 5) pe_int (nomark _)) (pw_or1 (pt_cmpR (op_neD hr.units) (pe_fld (pv 5) rfl) (pe_lc (own := [("at", 7)]) (g := gName 7) (tt := tYes) rfl sc_law.nd (pi_range1 (by rfl) T.m_range (pa_cons (pv 2) pa_nil)) (blkOk_by (N := ["script", "state", "sets", "ways", "size", "cache", "fitting", "at", "rows", "given", "row", "other", "address", "told"]) (sc := defScope s_law) (by decide +kernel)) (fun _ _ _ _ _ => pg_name (i := 7) sc_law.nd rfl (Or.inl rfl)) (fun _ _ _ _ _ => pts_nil) (fun _ _ _ _ _ => (pe_lst pa_nil))) (nomark _))))).pt
  (pss_one (ps_ret pe_bl))
  pss_nil)
  (pss_cons (ps_set (i := 8) sc_law.nd rfl (by first | exact Or.inl rfl | exact Or.inr rfl) (pe_call (ok__law_valid T) (hr.mono (by decide)) (by rfl) T.g__law_valid T.F__law_valid.kp T.b__law_valid .nil pass0 (pa_cons (pv 1) (pa_cons (pv 2) (pa_cons (pv 3) pa_nil)))))
  (pss_cons (ps_setLc (i := 9) (own := [("row", 10)]) (g := gName 10) (tt := tYes) rfl sc_law.nd rfl rfl (sw_true rfl rfl rfl (by decide +kernel)) (pi_list (pv 8)) (blkOk_by (N := ["script", "state", "sets", "ways", "size", "cache", "fitting", "at", "rows", "given", "row", "other", "address", "told"]) (sc := defScope s_law) (by decide +kernel)) (fun _ _ _ _ _ => pg_name (i := 10) sc_law.nd rfl (Or.inl rfl)) (fun _ _ _ _ _ => pts_nil) (fun _ _ _ _ _ => (pe_callTy (show CallR _ (Value.type "list") (rListOf K) from call_list_of) (by rfl) T.m_list (by decide +kernel) (pa_cons (pv 10) pa_nil))))
  (pss_cons (ps_expr (pe_meth (pv 5) T.cl_Cache T.m_Cache_fill (ok_Cache_fill T) (hr.mono (by decide)) T.b_Cache_fill .nil pass_no (pa_cons (pv 9) pa_nil)))
  (pss_cons (ps_expr (pe_bm PySem.F.plainAttrs_list PySem.F.slot_list_append PySem.F.type_list_append mt_append (pe_ix ix_list (pv 9) pe_int (fun _ _ => rfl)) (pa_cons pe_int pa_nil)))
  (pss_cons (ps_expr (pe_bm PySem.F.plainAttrs_list PySem.F.slot_list_append PySem.F.type_list_append mt_append (pv 9) (pa_cons (pe_lst pa_nil) pa_nil)))
  (pss_cons (ps_if (pt_cmpR (op_neD hr.units) (pe_fld (pv 5) rfl) (pv 8) (nomark _))
  (pss_one (ps_ret pe_bl))
  pss_nil)
  (pss_cons (ps_if (pw_or (pt_not (pt_val (pe_call (ok__law_refused T) (hr.mono (by decide)) (by rfl) T.g__law_refused T.F__law_refused.kp T.b__law_refused .nil pass0 (pa_cons (pv 5) (pa_cons (pe_call (ok__law_spoilt T) (hr.mono (by decide)) (by rfl) T.g__law_spoilt T.F__law_spoilt.kp T.b__law_spoilt .nil pass0 (pa_cons (pv 1) (pa_cons (pv 8) (pa_cons (pv 3) pa_nil)))) pa_nil))))) (pw_or1 (pt_cmpR (op_neD hr.units) (pe_fld (pv 5) rfl) (pv 8) (nomark _)))).pt
  (pss_one (ps_ret pe_bl))
  pss_nil)
  (pss_cons (ps_set (i := 11) sc_law.nd rfl (by first | exact Or.inl rfl | exact Or.inr rfl) (pe_call (ok__law_valid T) (hr.mono (by decide)) (by rfl) T.g__law_valid T.F__law_valid.kp T.b__law_valid .nil pass0 (pa_cons (pv 1) (pa_cons (pv 2) (pa_cons (pv 3) pa_nil)))))
  (pss_cons (ps_expr (pe_meth (pv 5) T.cl_Cache T.m_Cache_fill (ok_Cache_fill T) (hr.mono (by decide)) T.b_Cache_fill .nil pass_no (pa_cons (pv 11) pa_nil)))
  (pss_cons (ps_if (pt_cmpR (op_neD hr.units) (pe_fld (pv 5) rfl) (pv 11) (nomark _))
  (pss_one (ps_ret pe_bl))
  pss_nil)
  (pss_cons (ps_for PassesOwn.never rfl (pi_range1 (by rfl) T.m_range (pa_cons (pv 2) pa_nil)) (pg_name (i := 7) sc_law.nd rfl (by first | exact Or.inl rfl | exact Or.inr rfl))
  (pss_cons (ps_set (i := 12) sc_law.nd rfl (by first | exact Or.inl rfl | exact Or.inr rfl) (pe_op op_sub (pe_op op_add (pe_op op_mul (pv 7) (pv 4)) (pv 4)) pe_int))
  (pss_cons (ps_set (i := 13) sc_law.nd rfl (by first | exact Or.inl rfl | exact Or.inr rfl) (pe_meth (pv 5) T.cl_Cache T.m_Cache_holds (ok_Cache_holds T) (hr.mono (by decide)) T.b_Cache_holds .nil pass0 (pa_cons (pv 12) pa_nil)))
  (pss_one (ps_if (pw_or (pt_not (pt_val (pe_callB call_isi (by rfl) T.m_isinstance (by decide +kernel) (pa_cons (pv 13) (pa_cons (pe_ty (T := "bool") (by rfl) T.m_bool (by decide +kernel)) pa_nil))))) (pw_or1 (pt_cmpR op_ne (pv 13) (pe_cmpR op_in_seq (pv 7) (pe_ix ix_list (pv 11) (pv 7) (fun _ _ => rfl)) (by with_unfolding_all rfl)) (nomark _)))).pt
  (pss_one (ps_ret pe_bl))
  pss_nil)))))
  (pss_one (ps_ret pe_bl))))))))))))))))))))), ?_⟩
    refine ⟨_, rfl, l, ns, rfl, hS, hlen, fun H0 p c _ _ _ st0 => ?_⟩
    -- the sizes
    refine ⟨_, rfl, p, c, 68, rfl, st0, by decide, by decide, fun v1 H1 a1 b1 st1 _ => ?_⟩
    refine ⟨_, _, rfl, rfl, _, rfl, p, c, 6, rfl, st1, by decide, by decide, fun v2 H2 a2 b2 st2 _ => ?_⟩
    refine ⟨_, _, rfl, rfl, by show 3 ≤ sizeLine; decide, fun t1 nt1 => ?_⟩
    refine ⟨_, rfl, p, c, 3, rfl, st2.same (same_new nt1), by decide, by decide, fun v3 H3 a3 b3 st3 k3 => ?_⟩
    have ht1 := k3 _ _ (st2.ne nt1).1 upd_same
    obtain ⟨j1, y1, ej1, hy1, my1⟩ := at_any (xs := [.int (v1 - 1), .int (1 + v2), .int 64]) (n := 3) a3 (by omega) rfl
    obtain ⟨S, rfl, bS⟩ : ∃ S : Int, y1 = .int S ∧ small S := by
      simp only [List.mem_cons, List.mem_nil_iff, or_false] at my1
      rcases my1 with rfl | rfl | rfl
      · exact ⟨_, rfl, small_of (by omega) (by omega)⟩
      · exact ⟨_, rfl, small_of (by omega) (by omega)⟩
      · exact ⟨_, rfl, small_of (by omega) (by omega)⟩
    refine ⟨t1, _, _, .int S, rfl, rfl, SqL.of ht1, at_of ej1 hy1, ?_⟩
    refine ⟨_, rfl, p, c, 7, rfl, st3, by decide, by decide, fun v4 H4 a4 b4 st4 _ => ?_⟩
    refine ⟨_, _, rfl, rfl, _, rfl, p, c, 4, rfl, st4, by decide, by decide, fun v5 H5 a5 b5 st5 _ => ?_⟩
    refine ⟨_, _, rfl, rfl, by show 2 ≤ sizeLine; decide, fun t2 nt2 => ?_⟩
    refine ⟨_, rfl, p, c, 2, rfl, st5.same (same_new nt2), by decide, by decide, fun v6 H6 a6 b6 st6 k6 => ?_⟩
    have ht2 := k6 _ _ (st5.ne nt2).1 upd_same
    obtain ⟨j2, y2, ej2, hy2, my2⟩ := at_any (xs := [.int (v4 - 1), .int (1 + v5)]) (n := 2) a6 (by omega) rfl
    obtain ⟨W, rfl, bW⟩ : ∃ W : Int, y2 = .int W ∧ small W := by
      simp only [List.mem_cons, List.mem_nil_iff, or_false] at my2
      rcases my2 with rfl | rfl
      · exact ⟨_, rfl, small_of (by omega) (by omega)⟩
      · exact ⟨_, rfl, small_of (by omega) (by omega)⟩
    refine ⟨t2, _, _, .int W, rfl, rfl, SqL.of ht2, at_of ej2 hy2, ?_⟩
    refine ⟨_, rfl, p, c, 19, rfl, st6, by decide, by decide, fun v7 H7 a7 b7 st7 _ => ?_⟩
    refine ⟨_, _, rfl, rfl, by show 5 ≤ sizeLine; decide, fun t3 nt3 => ?_⟩
    refine ⟨_, rfl, p, c, 5, rfl, st7.same (same_new nt3), by decide, by decide, fun v8 H8 a8 b8 st8 k8 => ?_⟩
    have ht3 := k8 _ _ (st7.ne nt3).1 upd_same
    obtain ⟨j3, y3, ej3, hy3, my3⟩ := at_any (xs := [.int 1, .int 2, .int 4, .int 8, .int 16]) (n := 5) a8 (by omega) rfl
    obtain ⟨z', rfl, bz'⟩ : ∃ z : Int, y3 = .int z ∧ small z := by
      simp only [List.mem_cons, List.mem_nil_iff, or_false] at my3
      rcases my3 with rfl | rfl | rfl | rfl | rfl <;> exact ⟨_, rfl, small_of (by omega) (by omega)⟩
    refine ⟨t3, _, _, .int z', rfl, rfl, SqL.of ht3, at_of ej3 hy3, ?_⟩
    refine ⟨by show 2 ≤ sizeLine; decide, fun t4 nt4 => ?_⟩
    refine ⟨_, rfl, p, c, 2, rfl, st8.same (same_new nt4), by decide, by decide, fun v9 H9 a9 b9 st9 k9 => ?_⟩
    have ht4 := k9 _ _ (st8.ne nt4).1 upd_same
    obtain ⟨j4, y4, ej4, hy4, my4⟩ := at_any (xs := [.int (v7 - 1), .int z']) (n := 2) a9 (by omega) rfl
    obtain ⟨z, rfl, bz⟩ : ∃ z : Int, y4 = .int z ∧ small z := by
      simp only [List.mem_cons, List.mem_nil_iff, or_false] at my4
      rcases my4 with rfl | rfl
      · exact ⟨_, rfl, small_of (by omega) (by omega)⟩
      · exact ⟨_, rfl, bz'⟩
    refine ⟨t4, _, _, .int z, rfl, rfl, SqL.of ht4, at_of ej4 hy4, ?_⟩
    clear ej1 ej2 ej3 ej4 hy1 hy2 hy3 hy4 my1 my2 my3 my4 ht1 ht2 ht3 ht4 k3 k6 k8 k9
    -- the cache
    refine ⟨_, rfl, _, rfl, _, rfl, S, W, z, rfl, bS, bW, bz, fun ok H10 o R ls ca s10 fr no => ?_, fun nok H10 s10 => ?_⟩
    · obtain ⟨⟨_, hp9⟩, _⟩ := st9.there
      have apR : Apart p R ls := fr.apart hp9
      have oP : o ≠ p := fun e => by rw [← e, no] at hp9; cases hp9
      have st10 := st9.same s10
      refine ⟨_, rfl, _, _, rfl, rfl, _, rfl, ?_⟩
      rw [decide_eq_true ok.s1]
      refine iteT ⟨_, rfl, _, _, rfl, rfl, _, rfl, ?_⟩
      rw [decide_eq_true ok.s2]
      refine iteT ⟨_, rfl, _, _, rfl, rfl, _, rfl, ?_⟩
      rw [decide_eq_true ok.w1]
      refine iteT ⟨_, rfl, _, _, rfl, rfl, _, rfl, ?_⟩
      rw [decide_eq_true ok.w2]
      refine iteT ⟨_, rfl, by show 5 ≤ sizeLine; decide, fun T1 nT => ⟨T1, _, rfl, .inr (SqT.of upd_same), rfl, by decide, ?_⟩⟩
      rw [size_in, decide_eq_true ok.zz]
      refine ⟨_, rfl, true, rfl, iteF ?_⟩
      have s11 := same_new (o := .tup [.int 1, .int 2, .int 4, .int 8, .int 16]) nT
      obtain ⟨s1, s2, w1, w2, zz⟩ := id ok
      obtain ⟨z0, z1⟩ := ok.z0
      have ca11 := ca.same s11
      obtain ⟨dx, ho11⟩ := ca11.ob
      refine ⟨_, rfl, rfl, _, rfl, ?_⟩
      rw [decide_eq_false (show ¬ V.ref o = V.non by intro e; cases e)]
      refine iteF ⟨_, rfl, o, dx, _, 0, rfl, rfl, ho11, _, rfl, iteF ⟨_, rfl, o, _, dx, _, _, rfl, ho11, T.cl_Cache, T.n_Cache_rows, cf_R, _, rfl, S, rfl, by omega, by omega, fun D nD => ?_⟩⟩
      refine lc_range (n := S.toNat) (CopyInv _ D (List.replicate S.toNat [])) (CopyInv.zero nD) ?_ ?_
      · intro i H' hi ci
        refine ⟨rfl, ?_⟩
        refine ⟨Nat.zero_le _, fun m hm => ?_⟩
        obtain ⟨ys, y1, y2, y3⟩ := ci.step (r := []) nD hm (by rw [List.getElem?_replicate, if_pos hi])
        exact ⟨ys, y1, small1000 (by omega), y3⟩
      · intro H12 ci
        obtain ⟨_, g12, _, s12⟩ := CopyInv.done (rows := List.replicate S.toNat []) (by rw [List.length_replicate]; exact ci) nD
        have ca12 := ca11.same s12
        have st12 := (st10.same s11).same s12
        refine ⟨rowsD _, rowsD _, ca12.gr.dp, g12.dp, rows_shaped _, rows_shaped _, _, rfl, ?_⟩
        rw [rows_eqv]
        refine iteF ?_
        refine ⟨_, rfl, _, rfl, _, rfl, p, c, S, W, rfl, st12, s1, s2, w1, w2, fun H13 A as rows1 gA good1 st13 k13 fA => ?_⟩
        have ca13 := ca12.keep k13 apR oP
        have ho13 : H13 o = some (.ins T.C_Cache dx (cf S W z R)) := k13 _ _ oP (s12 _ _ ho11)
        obtain ⟨⟨_, hp12⟩, _⟩ := st12.there
        have apA : Apart p A as := fA.apart hp12
        have len1 := good1.1
        have four1 := good_len good1 w2
        -- the copy
        refine ⟨_, rfl, A, rfl, ⟨_, SqL.of gA.rr⟩, fun G nG => ?_⟩
        refine lc_list (xs := as.map V.ref) (CopyInv H13 G rows1) (CopyInv.zero nG) (fun i H' _ ci => SqL.of (ci.same _ _ gA.rr)) ?_ ?_
        · intro i v H' hv ci
          obtain ⟨l2, hl, rfl⟩ : ∃ l2, as[i]? = some l2 ∧ V.ref l2 = v := by
            rw [List.getElem?_map] at hv
            cases e : as[i]? with
            | none => rw [e] at hv; cases hv
            | some l2 => rw [e] at hv; exact ⟨l2, rfl, Option.some.inj hv⟩
          obtain ⟨r, hr2, hH⟩ := gA.get' hl
          refine ⟨rfl, ?_⟩
          refine ⟨_, rfl, l2, _, rfl, .inl (SqL.of (ci.same _ _ hH)), fun m hm => ?_⟩
          obtain ⟨ys, y1, yl, y3⟩ := ci.step nG hm hr2
          have il : i < rows1.length := (List.getElem?_eq_some_iff.mp hr2).1
          exact ⟨ys, y1, small1000 (by omega), y3⟩
        · intro H14 ci
          rw [List.length_map, gA.len] at ci
          obtain ⟨gs, gG, fG, s14⟩ := ci.done nG
          have ca14 := ca13.same s14
          have ho14 := s14 _ _ ho13
          have lt64 : ∀ r ∈ rows1, r.length < 64 := fun r m => by
            have := four1 r m
            omega
          refine ⟨_, rfl, o, dx, _, rfl, ho14, cf_no, _, rfl, o, R, G, ls, gs, S, W, z, _, rows1, rfl, ca14, ok, gG, lt64, by omega, fun _ H15 R5 ls5 ca15 put15 f5 => ?_, fun b => (good_not_bad good1 b).elim⟩
          have st14 := st13.same s14
          have st15 := st14.put put15 ho14
          have gA15 := (gA.same s14).put' put15 ho14
          have gG15 := gG.put' put15 ho14
          obtain ⟨dx5, ho15⟩ := ca15.ob
          -- given is changed
          have r0 : 0 < rows1.length := by omega
          obtain ⟨g0, hg0, hH0⟩ := gG15.get (List.getElem?_eq_getElem r0)
          have mg0 : g0 ∈ gs := List.mem_of_getElem? hg0
          obtain ⟨x0, hx0⟩ := gG.is mg0
          have len0 := four1 _ (List.getElem_mem r0)
          refine ⟨_, rfl, G, _, 0, .ref g0, rfl, rfl, SqL.of gG15.rr, at_of (j := 0) rfl (by rw [List.getElem?_map, hg0]; rfl), .inl ⟨rfl, _, SqL.of hH0⟩, g0, _, _, rfl, rfl, hH0, ?_, ?_⟩
          · rw [List.length_map]
            exact small1000 (by omega)
          have G0 : G ≠ g0 := fun e => gG.nR (e ▸ mg0)
          have hG16 : (upd H15 g0 (.lst ((rows1[0]).map V.int ++ [.int 5]))) G = some (.lst (gs.map V.ref)) := by
            rw [upd_ne G0]
            exact gG15.rr
          refine ⟨_, rfl, .inl ⟨rfl, _, SqL.of hG16⟩, Nat.zero_le _, fun m nm => ?_⟩
          have s17 := same_new (o := .lst []) nm
          refine ⟨G, _, _, rfl, rfl, s17 _ _ hG16, ?_, ?_⟩
          · rw [List.length_map, gG.len]
            exact small1000 (by omega)
          have oG : ∀ b, (∃ xs, H15 b = some (.lst xs)) → o ≠ b := fun b ⟨xs, hb⟩ => (ne_of hb ho15 (by intro e; cases e)).symm
          have ca18 := ((ca15.off (x := .lst ((rows1[0]).map V.int ++ [.int 5])) (f5.apart hx0) (oG g0 ⟨_, hH0⟩)).same s17).off (x := .lst (gs.map V.ref ++ [.ref m])) (f5.apart gG.rr) (oG G ⟨_, gG15.rr⟩)
          have gA18 := ((gA15.off (x := .lst ((rows1[0]).map V.int ++ [.int 5])) (gA.apartN (fG.2 g0 mg0)).h1 (gA.apartN (fG.2 g0 mg0)).h2).same s17).off (x := .lst (gs.map V.ref ++ [.ref m])) (gA.apartN fG.1).h1 (gA.apartN fG.1).h2
          have st18 := ((st15.off (x := .lst ((rows1[0]).map V.int ++ [.int 5])) st13 (fG.2 g0 mg0)).same s17).off (x := .lst (gs.map V.ref ++ [.ref m])) st13 fG.1
          obtain ⟨⟨_, hp14⟩, _⟩ := st14.there
          have ap5 : Apart p R5 ls5 := f5.apart hp14
          obtain ⟨dx8, ho18⟩ := ca18.ob
          refine ⟨_, rfl, o, _, dx8, _, _, rfl, ho18, T.cl_Cache, T.n_Cache_rows, cf_R, _, rfl, rowsD _, rowsD _, ca18.gr.dp, gA18.dp, rows_shaped _, rows_shaped _, _, rfl, ?_⟩
          rw [rows_eqv]
          refine iteF ?_
          -- contents with one fault
          refine ⟨_, rfl, _, rfl, _, rfl, _, rfl, p, c, A, as, S, W, rows1, rfl, st18, gA18, apA.h1, apA.h2, good1, four1, s1, s2, w1, w2, fun H19 B bs bad gB badB b64 bl st19 k19 => ?_⟩
          have ca19 := ca18.keep k19 ap5 oP
          have gA19 := gA18.keep k19 apA.h1 apA.h2
          refine ⟨o, R5, B, ls5, bs, S, W, z, rows1, bad, rfl, ca19, ok, gB, b64, bl, badB, fun H20 s20 => ⟨true, rfl, iteF ?_⟩⟩
          have ca20 := ca19.same s20
          have gA20 := gA19.same s20
          obtain ⟨dx9, ho20⟩ := ca20.ob
          refine ⟨_, rfl, o, _, dx9, _, _, rfl, ho20, T.cl_Cache, T.n_Cache_rows, cf_R, _, rfl, rowsD _, rowsD _, ca20.gr.dp, gA20.dp, rows_shaped _, rows_shaped _, _, rfl, ?_⟩
          rw [rows_eqv]
          refine iteF ?_
          -- other contents
          refine ⟨_, rfl, _, rfl, _, rfl, p, c, S, W, rfl, st19.same s20, s1, s2, w1, w2, fun H21 O os rows2 gO good2 st21 k21 fO => ?_⟩
          have ca21 := ca20.keep k21 ap5 oP
          obtain ⟨dx10, ho21⟩ := ca21.ob
          have len2 := good2.1
          have four2 := good_len good2 w2
          refine ⟨_, rfl, o, dx10, _, rfl, ho21, cf_no, _, rfl, o, R5, O, ls5, os, S, W, z, _, rows2, rfl, ca21, ok, gO, (fun r m => by have := four2 r m; omega), by omega, fun _ H22 R6 ls6 ca22 put22 f6 => ?_, fun b => (good_not_bad good2 b).elim⟩
          have gO22 := gO.put' put22 ho21
          obtain ⟨dx11, ho22⟩ := ca22.ob
          refine ⟨_, rfl, o, _, dx11, _, _, rfl, ho22, T.cl_Cache, T.n_Cache_rows, cf_R, _, rfl, rowsD _, rowsD _, ca22.gr.dp, gO22.dp, rows_shaped _, rows_shaped _, _, rfl, ?_⟩
          rw [rows_eqv]
          refine iteF ?_
          -- the lines told
          refine ⟨_, rfl, S, rfl, by omega, by omega, for_range (n := S.toNat) (fun i σ H' => ∃ y7 y12 y13, σ = [some (.ref l), some (.ref p), some (.int S), some (.int W), some (.int z), some (.ref o), some (.bl true), y7, some (.ref A), some (.ref G), none, some (.ref O), y12, y13] ∧ H' = H22) ⟨none, none, none, rfl, rfl⟩ ?_ ?_⟩
          · rintro i σ H' hi ⟨y7, y12, y13, rfl, rfl⟩
            have ea : ((0 + (i : Int)) * z + z - 1) / z = (i : Int) := by
              rw [Int.zero_add, show (i : Int) * z + z - 1 = (z - 1) + (i : Int) * z by omega, Int.add_mul_ediv_right _ _ (by omega), Int.ediv_eq_zero_of_lt (by omega) (by omega), Int.zero_add]
            have il : i < rows2.length := by omega
            obtain ⟨l2, hl2, hH2⟩ := gO22.get (List.getElem?_eq_getElem il)
            have er : rowAt rows2 S (i : Int) = rows2[i] := by
              unfold rowAt
              rw [Int.emod_eq_of_lt (by omega) (by omega), Int.toNat_natCast, List.getD_eq_getElem?_getD, List.getElem?_eq_getElem il]
              rfl
            refine ⟨_, rfl, _, rfl, _, _, rfl, rfl, .inl ⟨by omega, by omega⟩, _, rfl, _, _, rfl, rfl, _, _, rfl, rfl, ?_⟩
            refine ⟨_, rfl, o, dx11, _, rfl, ho22, cf_no, _, rfl, o, R6, ls6, S, W, z, rows2, _, rfl, ca22, ok, ?_⟩
            dsimp only [gName]
            rw [ea, er]
            refine if_or (a := false) (b := false) (fun Q' q' => ⟨_, rfl, _, _, _, _, true, rfl, .ty _, .base (.bl _), kit_ty (by decide +kernel), true, rfl, q'⟩)
              (fun _ Q' q' => ⟨_, rfl, _, rfl, _, rfl, _, rfl, O, _, _, .ref l2, rfl, rfl, SqL.of gO22.rr, at_of (j := i) (by omega) (by rw [List.getElem?_map, hl2]; rfl), l2, _, rfl, .inl (SqL.of hH2), rfl, flat_ints _, rfl, _, rfl, by rw [inV_int, Int.zero_add, decide_eq_true (show V.bl (decide ((i : Int) ∈ rows2[i])) = V.bl (if false = true then !decide ((i : Int) ∈ rows2[i]) else decide ((i : Int) ∈ rows2[i])) from rfl)]; exact q'⟩) (iteF ?_)
            exact ⟨_, _, _, rfl, rfl⟩
          · rintro σ H' ⟨y7, y12, y13, rfl, rfl⟩
            exact q _
    · refine ⟨_, rfl, _, _, rfl, rfl, _, rfl, ?_⟩
      by_cases h1 : 1 ≤ S
      · rw [decide_eq_true h1]
        refine iteT ⟨_, rfl, _, _, rfl, rfl, _, rfl, ?_⟩
        by_cases h2 : S ≤ 64
        · rw [decide_eq_true h2]
          refine iteT ⟨_, rfl, _, _, rfl, rfl, _, rfl, ?_⟩
          by_cases h3 : 1 ≤ W
          · rw [decide_eq_true h3]
            refine iteT ⟨_, rfl, _, _, rfl, rfl, _, rfl, ?_⟩
            by_cases h4 : W ≤ 4
            · rw [decide_eq_true h4]
              refine iteT ⟨_, rfl, by show 5 ≤ sizeLine; decide, fun T1 nT => ⟨T1, _, rfl, .inr (SqT.of upd_same), rfl, by decide, ?_⟩⟩
              rw [size_in, decide_eq_false (fun h5 => nok ⟨h1, h2, h3, h4, h5⟩)]
              exact ⟨_, rfl, false, rfl, iteT ⟨_, rfl, rfl, by rw [decide_eq_true rfl]; exact q _⟩⟩
            · rw [decide_eq_false h4]
              exact iteF ⟨_, rfl, false, rfl, iteT ⟨_, rfl, rfl, by rw [decide_eq_true rfl]; exact q _⟩⟩
          · rw [decide_eq_false h3]
            exact iteF ⟨_, rfl, false, rfl, iteT ⟨_, rfl, rfl, by rw [decide_eq_true rfl]; exact q _⟩⟩
        · rw [decide_eq_false h2]
          exact iteF ⟨_, rfl, false, rfl, iteT ⟨_, rfl, rfl, by rw [decide_eq_true rfl]; exact q _⟩⟩
      · rw [decide_eq_false h1]
        exact iteF ⟨_, rfl, false, rfl, iteT ⟨_, rfl, rfl, by rw [decide_eq_true rfl]; exact q _⟩⟩
end
def top_mk {P : Program} {w : World} {K : PySem.W.Frag} {h : Heap} {mg : Str → Option Value} (X : K.In h) (G : h.Ns mainGlobals mg)
    {a_decimal : Addr} {od_decimal an_decimal : Option Addr} {sl_decimal : Array (Option Value)} {oc_decimal kV_decimal dc_decimal pm_decimal cd_decimal ct_decimal : Value}
    {a__law_start : Addr} {od__law_start an__law_start : Option Addr} {sl__law_start : Array (Option Value)} {oc__law_start kV__law_start dc__law_start pm__law_start cd__law_start ct__law_start : Value}
    {a__law_draw : Addr} {od__law_draw an__law_draw : Option Addr} {sl__law_draw : Array (Option Value)} {oc__law_draw kV__law_draw dc__law_draw pm__law_draw cd__law_draw ct__law_draw : Value}
    {a_Cache_init : Addr} {od_Cache_init an_Cache_init : Option Addr} {sl_Cache_init : Array (Option Value)} {oc_Cache_init kV_Cache_init dc_Cache_init pm_Cache_init cd_Cache_init ct_Cache_init : Value}
    {a_Cache_fits : Addr} {od_Cache_fits an_Cache_fits : Option Addr} {sl_Cache_fits : Array (Option Value)} {oc_Cache_fits kV_Cache_fits dc_Cache_fits pm_Cache_fits cd_Cache_fits ct_Cache_fits : Value}
    {a_Cache_fill : Addr} {od_Cache_fill an_Cache_fill : Option Addr} {sl_Cache_fill : Array (Option Value)} {oc_Cache_fill kV_Cache_fill dc_Cache_fill pm_Cache_fill cd_Cache_fill ct_Cache_fill : Value}
    {a_Cache_holds : Addr} {od_Cache_holds an_Cache_holds : Option Addr} {sl_Cache_holds : Array (Option Value)} {oc_Cache_holds kV_Cache_holds dc_Cache_holds pm_Cache_holds cd_Cache_holds ct_Cache_holds : Value}
    {a__law_made : Addr} {od__law_made an__law_made : Option Addr} {sl__law_made : Array (Option Value)} {oc__law_made kV__law_made dc__law_made pm__law_made cd__law_made ct__law_made : Value}
    {a__law_valid : Addr} {od__law_valid an__law_valid : Option Addr} {sl__law_valid : Array (Option Value)} {oc__law_valid kV__law_valid dc__law_valid pm__law_valid cd__law_valid ct__law_valid : Value}
    {a__law_spoilt : Addr} {od__law_spoilt an__law_spoilt : Option Addr} {sl__law_spoilt : Array (Option Value)} {oc__law_spoilt kV__law_spoilt dc__law_spoilt pm__law_spoilt cd__law_spoilt ct__law_spoilt : Value}
    {a__law_refused : Addr} {od__law_refused an__law_refused : Option Addr} {sl__law_refused : Array (Option Value)} {oc__law_refused kV__law_refused dc__law_refused pm__law_refused cd__law_refused ct__law_refused : Value}
    {a_law : Addr} {od_law an_law : Option Addr} {sl_law : Array (Option Value)} {oc_law kV_law dc_law pm_law cd_law ct_law : Value}
    {C_PlanError : Addr}
    {C_Cache : Addr}
    {C_DeadbeatError : Addr}
    {f_PlanError cda_PlanError cc_PlanError N_PlanError : Addr} {nm_PlanError q_PlanError file_PlanError : Str} {bs_PlanError bm_PlanError sub_PlanError : List Value} {sn_PlanError : List Str} {ab_PlanError : Bool} {col_PlanError : Option Bool} {dd_PlanError od_PlanError an_PlanError cdd_PlanError cld_PlanError : Option Addr} {m0_PlanError m1_PlanError m2_PlanError m3_PlanError m5_PlanError : Option Value} {oc_PlanError dc_PlanError pm_PlanError ct_PlanError ccl_PlanError cl_PlanError : Value} {osl_PlanError ccs_PlanError csl_PlanError : Array (Option Value)} {vs_PlanError : Array Value} {tq_PlanError tf_PlanError : Tok}
    {t_PIECE : Tok}
    {t_PIECE_DIGITS : Tok}
    {p_LINE_SIZES : Addr} {n_LINE_SIZES : Nat} {us_LINE_SIZES : Array Value} {sl_LINE_SIZES : Array (Option Value)}
    {t_MOST_WAYS : Tok}
    {t_MOST_SETS : Tok}
    {t_GREATEST_LINE : Tok}
    (n_decimal : PySem.W.nsIn K mainGlobals "decimal" = some (some (.ref a_decimal)))
    (n__law_start : PySem.W.nsIn K mainGlobals "_law_start" = some (some (.ref a__law_start)))
    (n__law_draw : PySem.W.nsIn K mainGlobals "_law_draw" = some (some (.ref a__law_draw)))
    (n__law_made : PySem.W.nsIn K mainGlobals "_law_made" = some (some (.ref a__law_made)))
    (n__law_valid : PySem.W.nsIn K mainGlobals "_law_valid" = some (some (.ref a__law_valid)))
    (n__law_spoilt : PySem.W.nsIn K mainGlobals "_law_spoilt" = some (some (.ref a__law_spoilt)))
    (n__law_refused : PySem.W.nsIn K mainGlobals "_law_refused" = some (some (.ref a__law_refused)))
    (n_law : PySem.W.nsIn K mainGlobals "law" = some (some (.ref a_law)))
    (nc_PlanError : PySem.W.nsIn K mainGlobals "PlanError" = some (some (.ref C_PlanError)))
    (nc_Cache : PySem.W.nsIn K mainGlobals "Cache" = some (some (.ref C_Cache)))
    (nc_DeadbeatError : PySem.W.nsIn K mainGlobals "DeadbeatError" = some (some (.ref C_DeadbeatError)))
    (l_decimal : K.lookup a_decimal = some ⟨oc_decimal, od_decimal, .func (PySem.W.fnOf "decimal" "decimal" (defArgs s_decimal) (defBody s_decimal) (defScope s_decimal) .none kV_decimal dc_decimal pm_decimal an_decimal cd_decimal ct_decimal), sl_decimal⟩)
    (c_decimal : PySem.W.codeIn K cd_decimal "decimal" = true)
    (k_decimal : PySem.W.keepIn K (.ref a_decimal) = true)
    (l__law_start : K.lookup a__law_start = some ⟨oc__law_start, od__law_start, .func (PySem.W.fnOf "_law_start" "_law_start" (defArgs s__law_start) (defBody s__law_start) (defScope s__law_start) .none kV__law_start dc__law_start pm__law_start an__law_start cd__law_start ct__law_start), sl__law_start⟩)
    (c__law_start : PySem.W.codeIn K cd__law_start "_law_start" = true)
    (k__law_start : PySem.W.keepIn K (.ref a__law_start) = true)
    (l__law_draw : K.lookup a__law_draw = some ⟨oc__law_draw, od__law_draw, .func (PySem.W.fnOf "_law_draw" "_law_draw" (defArgs s__law_draw) (defBody s__law_draw) (defScope s__law_draw) .none kV__law_draw dc__law_draw pm__law_draw an__law_draw cd__law_draw ct__law_draw), sl__law_draw⟩)
    (c__law_draw : PySem.W.codeIn K cd__law_draw "_law_draw" = true)
    (k__law_draw : PySem.W.keepIn K (.ref a__law_draw) = true)
    (fi_Cache_init : PySem.W.findIn K (.ref C_Cache) "__init__" = some (some (.ref a_Cache_init)))
    (fn_Cache_init : PySem.W.isFn K (.ref a_Cache_init) = true)
    (l_Cache_init : K.lookup a_Cache_init = some ⟨oc_Cache_init, od_Cache_init, .func (PySem.W.fnOf "__init__" "Cache.__init__" (defArgs s_Cache_init) (defBody s_Cache_init) (defScope s_Cache_init) .none kV_Cache_init dc_Cache_init pm_Cache_init an_Cache_init cd_Cache_init ct_Cache_init), sl_Cache_init⟩)
    (c_Cache_init : PySem.W.codeIn K cd_Cache_init "Cache.__init__" = true)
    (k_Cache_init : PySem.W.keepIn K (.ref a_Cache_init) = true)
    (fi_Cache_fits : PySem.W.findIn K (.ref C_Cache) "fits" = some (some (.ref a_Cache_fits)))
    (fn_Cache_fits : PySem.W.isFn K (.ref a_Cache_fits) = true)
    (l_Cache_fits : K.lookup a_Cache_fits = some ⟨oc_Cache_fits, od_Cache_fits, .func (PySem.W.fnOf "fits" "Cache.fits" (defArgs s_Cache_fits) (defBody s_Cache_fits) (defScope s_Cache_fits) .none kV_Cache_fits dc_Cache_fits pm_Cache_fits an_Cache_fits cd_Cache_fits ct_Cache_fits), sl_Cache_fits⟩)
    (c_Cache_fits : PySem.W.codeIn K cd_Cache_fits "Cache.fits" = true)
    (k_Cache_fits : PySem.W.keepIn K (.ref a_Cache_fits) = true)
    (fi_Cache_fill : PySem.W.findIn K (.ref C_Cache) "fill" = some (some (.ref a_Cache_fill)))
    (fn_Cache_fill : PySem.W.isFn K (.ref a_Cache_fill) = true)
    (l_Cache_fill : K.lookup a_Cache_fill = some ⟨oc_Cache_fill, od_Cache_fill, .func (PySem.W.fnOf "fill" "Cache.fill" (defArgs s_Cache_fill) (defBody s_Cache_fill) (defScope s_Cache_fill) .none kV_Cache_fill dc_Cache_fill pm_Cache_fill an_Cache_fill cd_Cache_fill ct_Cache_fill), sl_Cache_fill⟩)
    (c_Cache_fill : PySem.W.codeIn K cd_Cache_fill "Cache.fill" = true)
    (k_Cache_fill : PySem.W.keepIn K (.ref a_Cache_fill) = true)
    (fi_Cache_holds : PySem.W.findIn K (.ref C_Cache) "holds" = some (some (.ref a_Cache_holds)))
    (fn_Cache_holds : PySem.W.isFn K (.ref a_Cache_holds) = true)
    (l_Cache_holds : K.lookup a_Cache_holds = some ⟨oc_Cache_holds, od_Cache_holds, .func (PySem.W.fnOf "holds" "Cache.holds" (defArgs s_Cache_holds) (defBody s_Cache_holds) (defScope s_Cache_holds) .none kV_Cache_holds dc_Cache_holds pm_Cache_holds an_Cache_holds cd_Cache_holds ct_Cache_holds), sl_Cache_holds⟩)
    (c_Cache_holds : PySem.W.codeIn K cd_Cache_holds "Cache.holds" = true)
    (k_Cache_holds : PySem.W.keepIn K (.ref a_Cache_holds) = true)
    (l__law_made : K.lookup a__law_made = some ⟨oc__law_made, od__law_made, .func (PySem.W.fnOf "_law_made" "_law_made" (defArgs s__law_made) (defBody s__law_made) (defScope s__law_made) .none kV__law_made dc__law_made pm__law_made an__law_made cd__law_made ct__law_made), sl__law_made⟩)
    (c__law_made : PySem.W.codeIn K cd__law_made "_law_made" = true)
    (k__law_made : PySem.W.keepIn K (.ref a__law_made) = true)
    (l__law_valid : K.lookup a__law_valid = some ⟨oc__law_valid, od__law_valid, .func (PySem.W.fnOf "_law_valid" "_law_valid" (defArgs s__law_valid) (defBody s__law_valid) (defScope s__law_valid) .none kV__law_valid dc__law_valid pm__law_valid an__law_valid cd__law_valid ct__law_valid), sl__law_valid⟩)
    (c__law_valid : PySem.W.codeIn K cd__law_valid "_law_valid" = true)
    (k__law_valid : PySem.W.keepIn K (.ref a__law_valid) = true)
    (l__law_spoilt : K.lookup a__law_spoilt = some ⟨oc__law_spoilt, od__law_spoilt, .func (PySem.W.fnOf "_law_spoilt" "_law_spoilt" (defArgs s__law_spoilt) (defBody s__law_spoilt) (defScope s__law_spoilt) .none kV__law_spoilt dc__law_spoilt pm__law_spoilt an__law_spoilt cd__law_spoilt ct__law_spoilt), sl__law_spoilt⟩)
    (c__law_spoilt : PySem.W.codeIn K cd__law_spoilt "_law_spoilt" = true)
    (k__law_spoilt : PySem.W.keepIn K (.ref a__law_spoilt) = true)
    (l__law_refused : K.lookup a__law_refused = some ⟨oc__law_refused, od__law_refused, .func (PySem.W.fnOf "_law_refused" "_law_refused" (defArgs s__law_refused) (defBody s__law_refused) (defScope s__law_refused) .none kV__law_refused dc__law_refused pm__law_refused an__law_refused cd__law_refused ct__law_refused), sl__law_refused⟩)
    (c__law_refused : PySem.W.codeIn K cd__law_refused "_law_refused" = true)
    (k__law_refused : PySem.W.keepIn K (.ref a__law_refused) = true)
    (l_law : K.lookup a_law = some ⟨oc_law, od_law, .func (PySem.W.fnOf "law" "law" (defArgs s_law) (defBody s_law) (defScope s_law) .none kV_law dc_law pm_law an_law cd_law ct_law), sl_law⟩)
    (c_law : PySem.W.codeIn K cd_law "law" = true)
    (k_law : PySem.W.keepIn K (.ref a_law) = true)
    (kpg_Cache : PySem.W.plainGet K C_Cache Str.empty = true)
    (khd_Cache : PySem.W.hasDictIn K C_Cache = true)
    (kpo_Cache : PySem.W.plainOver K C_Cache = true)
    (ksa_Cache : PySem.W.findIn K (.ref C_Cache) "__setattr__" = some (some (.builtin "object.__setattr__")))
    (kmk_Cache : PySem.W.makesIn K C_Cache = true)
    (kkc_Cache : PySem.W.keepIn K (.ref C_Cache) = true)
    (ke_Cache : PySem.W.findIn K (.ref C_Cache) "__eq__" = some (some (.builtin "object.__eq__")))
    (ko_Cache : PySem.W.mroIn K C_Cache (.type "object") = some true)
    (ki_Cache : PySem.W.subIn K (.type "int") (.ref C_Cache) = some false)
    (kn_Cache_rows : PySem.W.findIn K (.ref C_Cache) "rows" = some none)
    (kn_Cache_sets : PySem.W.findIn K (.ref C_Cache) "sets" = some none)
    (kn_Cache_size : PySem.W.findIn K (.ref C_Cache) "size" = some none)
    (kn_Cache_ways : PySem.W.findIn K (.ref C_Cache) "ways" = some none)
    (zs_super : PySem.W.nsIn K mainGlobals "super" = some none)
    (zt_third : PySem.W.nsIn K PySem.cStatics "thirdparty.any" = some none)
    (zq_top : (List.lookup (PySem.Str.ofString "super") P.main.scope.names).isSome = false)
    (xl_PlanError : K.lookup C_PlanError = some (excClassObj nm_PlanError q_PlanError C_PlanError N_PlanError bs_PlanError bm_PlanError true sn_PlanError sub_PlanError ab_PlanError col_PlanError dd_PlanError m0_PlanError m1_PlanError m2_PlanError m3_PlanError m5_PlanError "ValueError.__new__"))
    (xb_PlanError : PySem.HandSPX.refsVE bm_PlanError = true)
    (xi_PlanError : PySem.W.excInitIn K C_PlanError PySem.HandSPX.veTail "ValueError.__new__" = true)
    (xs_PlanError : PySem.W.ks_superIn K C_PlanError C_PlanError "__init__" = some (some (.builtin "ValueError.__init__")))
    (xv_PlanError : PySem.W.subIn K (.ref C_PlanError) (.type "ValueError") = some true)
    (xm_PlanError : PySem.W.mroIn K C_PlanError (.ref C_PlanError) = some true)
    (xo_PlanError : PySem.W.mroIn K C_PlanError (.type "object") = some true)
    (xa_PlanError : PySem.W.findIn K (.ref C_PlanError) "__setattr__" = some (some (.builtin "object.__setattr__")))
    (xg_PlanError : PySem.W.findIn K (.ref C_PlanError) "__getattribute__" = some (some (.builtin "BaseException.__getattribute__")))
    (xh_PlanError : PySem.W.findIn K (.ref C_PlanError) "__getattr__" = some none)
    (xn_PlanError : PySem.W.findIn K (.ref C_PlanError) "at" = some none)
    (xc_PlanError : PySem.W.findIn K (.ref C_PlanError) "__class__" = some (some (.builtin "object.__class__")))
    (xf_PlanError : PySem.W.findIn K (.ref C_PlanError) "__init__" = some (some (.ref f_PlanError)))
    (xt_PlanError : PySem.W.typeIn K (.ref f_PlanError) = some (.type "function"))
    (xk_PlanError : PySem.W.keepIn K (.ref C_PlanError) = true)
    (xe_PlanError : PySem.W.subIn K (.ref C_PlanError) (.type "BaseException") = some true)
    (xy_PlanError : PySem.W.typeIn K (.ref C_PlanError) = some (.type "type"))
    (xd_PlanError : PySem.W.hasDictIn K C_PlanError = true)
    (xu_PlanError : PySem.W.isClsIn K C_PlanError = true)
    (xw_PlanError : PySem.W.subIn K (.ref C_PlanError) (.ref C_PlanError) = some true)
    (xp_PlanError : PySem.W.specialIn K (.builtin "object.__class__") "__get__" = some (some (.builtin "getset_descriptor.__get__")))
    (xq_PlanError : PySem.W.takesIn K (.builtin "object.__class__") = some true)
    (l_PlanError : K.lookup f_PlanError = some ⟨oc_PlanError, od_PlanError, .func (PySem.W.ksFn "__init__" "PlanError.__init__" (PySem.Errs.eA "at" ⟨22, 17, 22, 21⟩ ⟨22, 23, 22, 25⟩) (PySem.Errs.eB "at" parts_PlanError ⟨23, 25, 23, 47⟩ ⟨23, 8, 23, 13⟩ ⟨23, 8, 23, 15⟩ ⟨23, 8, 23, 24⟩ ⟨23, 8, 23, 48⟩ ⟨23, 8, 23, 48⟩ ⟨24, 8, 24, 12⟩ ⟨24, 8, 24, 15⟩ ⟨24, 18, 24, 20⟩ ⟨24, 8, 24, 20⟩) (PySem.Errs.eS "at" [("decimal", .globalImplicit)]) .none .none dc_PlanError pm_PlanError an_PlanError (.ref cda_PlanError) ct_PlanError cc_PlanError), osl_PlanError⟩)
    (d_PlanError : K.lookup cda_PlanError = some ⟨ccl_PlanError, cdd_PlanError, .fields vs_PlanError, ccs_PlanError⟩)
    (e_PlanError : vs_PlanError[1]? = some (.str "PlanError.__init__" tq_PlanError))
    (g_PlanError : vs_PlanError[2]? = some (.str file_PlanError tf_PlanError))
    (h_PlanError : (P.main.file == file_PlanError) = true)
    (i_PlanError : K.lookup cc_PlanError = some ⟨cl_PlanError, cld_PlanError, .cell (some (.ref C_PlanError)), csl_PlanError⟩)
    (kt_PlanError_DeadbeatError : PySem.W.kitOne K (.ref C_PlanError) (.ref C_DeadbeatError) = some true)
    (z_str : PySem.W.nsIn K mainGlobals "str" = some none)
    (z_divmod : PySem.W.nsIn K mainGlobals "divmod" = some none)
    (z_abs : PySem.W.nsIn K mainGlobals "abs" = some none)
    (z_list : PySem.W.nsIn K mainGlobals "list" = some none)
    (z_int : PySem.W.nsIn K mainGlobals "int" = some none)
    (z_len : PySem.W.nsIn K mainGlobals "len" = some none)
    (z_range : PySem.W.nsIn K mainGlobals "range" = some none)
    (z_all : PySem.W.nsIn K mainGlobals "all" = some none)
    (z_set : PySem.W.nsIn K mainGlobals "set" = some none)
    (z_enumerate : PySem.W.nsIn K mainGlobals "enumerate" = some none)
    (z_isinstance : PySem.W.nsIn K mainGlobals "isinstance" = some none)
    (z_bool : PySem.W.nsIn K mainGlobals "bool" = some none)
    (v_PIECE : PySem.W.nsIn K mainGlobals "PIECE" = some (some (.int 1000000000000000000 t_PIECE)))
    (v_PIECE_DIGITS : PySem.W.nsIn K mainGlobals "PIECE_DIGITS" = some (some (.int 18 t_PIECE_DIGITS)))
    (v_LINE_SIZES : PySem.W.nsIn K mainGlobals "LINE_SIZES" = some (some (.ref p_LINE_SIZES)))
    (w_LINE_SIZES : K.lookup p_LINE_SIZES = some ⟨.type "tuple", none, .seq us_LINE_SIZES n_LINE_SIZES, sl_LINE_SIZES⟩)
    (y_LINE_SIZES : Vals [.int (1), .int (2), .int (4), .int (8), .int (16)] us_LINE_SIZES.toList)
    (v_MOST_WAYS : PySem.W.nsIn K mainGlobals "MOST_WAYS" = some (some (.int 4 t_MOST_WAYS)))
    (v_MOST_SETS : PySem.W.nsIn K mainGlobals "MOST_SETS" = some (some (.int 64 t_MOST_SETS)))
    (v_GREATEST_LINE : PySem.W.nsIn K mainGlobals "GREATEST_LINE" = some (some (.int 16383 t_GREATEST_LINE))) :
    Top P K mg :=
  { a_decimal := a_decimal,
    d_decimal := _,
    F_decimal := fun_mk (st := s_decimal) l_decimal c_decimal k_decimal,
    g_decimal := PySem.W.mg_of X G n_decimal,
    b_decimal := (fun_mk (st := s_decimal) l_decimal c_decimal k_decimal).binds (ps := ["n"]) fun _ _ _ _ _ _ us hl => match us, hl with | [_], _ => rfl,
    a__law_start := a__law_start,
    d__law_start := _,
    F__law_start := fun_mk (st := s__law_start) l__law_start c__law_start k__law_start,
    g__law_start := PySem.W.mg_of X G n__law_start,
    b__law_start := (fun_mk (st := s__law_start) l__law_start c__law_start k__law_start).binds (ps := ["script"]) fun _ _ _ _ _ _ us hl => match us, hl with | [_], _ => rfl,
    a__law_draw := a__law_draw,
    d__law_draw := _,
    F__law_draw := fun_mk (st := s__law_draw) l__law_draw c__law_draw k__law_draw,
    g__law_draw := PySem.W.mg_of X G n__law_draw,
    b__law_draw := (fun_mk (st := s__law_draw) l__law_draw c__law_draw k__law_draw).binds (ps := ["state", "many"]) fun _ _ _ _ _ _ us hl => match us, hl with | [_, _], _ => rfl,
    a_Cache_init := a_Cache_init,
    d_Cache_init := _,
    F_Cache_init := fun_mk (st := s_Cache_init) l_Cache_init c_Cache_init k_Cache_init,
    M_Cache := ⟨kmk_Cache, fi_Cache_init, fn_Cache_init, kkc_Cache⟩,
    b_Cache_init := (fun_mk (st := s_Cache_init) l_Cache_init c_Cache_init k_Cache_init).binds (ps := ["self", "sets", "ways", "size"]) fun _ _ _ _ _ _ us hl => match us, hl with | [_, _, _, _], _ => rfl,
    a_Cache_fits := a_Cache_fits,
    d_Cache_fits := _,
    F_Cache_fits := fun_mk (st := s_Cache_fits) l_Cache_fits c_Cache_fits k_Cache_fits,
    m_Cache_fits := ⟨fi_Cache_fits, fn_Cache_fits, k_Cache_fits⟩,
    b_Cache_fits := (fun_mk (st := s_Cache_fits) l_Cache_fits c_Cache_fits k_Cache_fits).binds (ps := ["self", "number", "lines"]) fun _ _ _ _ _ _ us hl => match us, hl with | [_, _, _], _ => rfl,
    a_Cache_fill := a_Cache_fill,
    d_Cache_fill := _,
    F_Cache_fill := fun_mk (st := s_Cache_fill) l_Cache_fill c_Cache_fill k_Cache_fill,
    m_Cache_fill := ⟨fi_Cache_fill, fn_Cache_fill, k_Cache_fill⟩,
    b_Cache_fill := (fun_mk (st := s_Cache_fill) l_Cache_fill c_Cache_fill k_Cache_fill).binds (ps := ["self", "rows"]) fun _ _ _ _ _ _ us hl => match us, hl with | [_, _], _ => rfl,
    a_Cache_holds := a_Cache_holds,
    d_Cache_holds := _,
    F_Cache_holds := fun_mk (st := s_Cache_holds) l_Cache_holds c_Cache_holds k_Cache_holds,
    m_Cache_holds := ⟨fi_Cache_holds, fn_Cache_holds, k_Cache_holds⟩,
    b_Cache_holds := (fun_mk (st := s_Cache_holds) l_Cache_holds c_Cache_holds k_Cache_holds).binds (ps := ["self", "address"]) fun _ _ _ _ _ _ us hl => match us, hl with | [_, _], _ => rfl,
    a__law_made := a__law_made,
    d__law_made := _,
    F__law_made := fun_mk (st := s__law_made) l__law_made c__law_made k__law_made,
    g__law_made := PySem.W.mg_of X G n__law_made,
    b__law_made := (fun_mk (st := s__law_made) l__law_made c__law_made k__law_made).binds (ps := ["sets", "ways", "size"]) fun _ _ _ _ _ _ us hl => match us, hl with | [_, _, _], _ => rfl,
    a__law_valid := a__law_valid,
    d__law_valid := _,
    F__law_valid := fun_mk (st := s__law_valid) l__law_valid c__law_valid k__law_valid,
    g__law_valid := PySem.W.mg_of X G n__law_valid,
    b__law_valid := (fun_mk (st := s__law_valid) l__law_valid c__law_valid k__law_valid).binds (ps := ["state", "sets", "ways"]) fun _ _ _ _ _ _ us hl => match us, hl with | [_, _, _], _ => rfl,
    a__law_spoilt := a__law_spoilt,
    d__law_spoilt := _,
    F__law_spoilt := fun_mk (st := s__law_spoilt) l__law_spoilt c__law_spoilt k__law_spoilt,
    g__law_spoilt := PySem.W.mg_of X G n__law_spoilt,
    b__law_spoilt := (fun_mk (st := s__law_spoilt) l__law_spoilt c__law_spoilt k__law_spoilt).binds (ps := ["state", "rows", "ways"]) fun _ _ _ _ _ _ us hl => match us, hl with | [_, _, _], _ => rfl,
    a__law_refused := a__law_refused,
    d__law_refused := _,
    F__law_refused := fun_mk (st := s__law_refused) l__law_refused c__law_refused k__law_refused,
    g__law_refused := PySem.W.mg_of X G n__law_refused,
    b__law_refused := (fun_mk (st := s__law_refused) l__law_refused c__law_refused k__law_refused).binds (ps := ["cache", "rows"]) fun _ _ _ _ _ _ us hl => match us, hl with | [_, _], _ => rfl,
    a_law := a_law,
    d_law := _,
    F_law := fun_mk (st := s_law) l_law c_law k_law,
    g_law := PySem.W.mg_of X G n_law,
    b_law := (fun_mk (st := s_law) l_law c_law k_law).binds (ps := ["script"]) fun _ _ _ _ _ _ us hl => match us, hl with | [_], _ => rfl,
    C_PlanError := C_PlanError,
    gc_PlanError := PySem.W.mg_of X G nc_PlanError,
    C_Cache := C_Cache,
    gc_Cache := PySem.W.mg_of X G nc_Cache,
    eq_Cache := ⟨ke_Cache, ko_Cache, ki_Cache⟩,
    cl_Cache := ⟨kpg_Cache, khd_Cache, kpo_Cache, ksa_Cache⟩,
    n_Cache_rows := kn_Cache_rows,
    n_Cache_sets := kn_Cache_sets,
    n_Cache_size := kn_Cache_size,
    n_Cache_ways := kn_Cache_ways,
    C_DeadbeatError := C_DeadbeatError,
    gc_DeadbeatError := PySem.W.mg_of X G nc_DeadbeatError,
    f_PlanError := f_PlanError,
    x_PlanError := { gC := PySem.W.mg_of X G nc_PlanError, noSuper := PySem.W.mg_none_of X G zs_super, noTop := zq_top, cls := ⟨_, _, _, _, _, _, _, _, _, _, _, _, _, _, _, xl_PlanError, xb_PlanError⟩, ini := xi_PlanError, sup := xs_PlanError, subV := xv_PlanError, mroS := xm_PlanError, third := zt_third, sa := xa_PlanError, ga := xg_PlanError, gg := xh_PlanError, noN := xn_PlanError, iC := xf_PlanError, tC := xt_PlanError, kC := xk_PlanError, exC := xe_PlanError, tyC := xy_PlanError, hdC := xd_PlanError, te := exm_own xe_PlanError xu_PlanError xy_PlanError xw_PlanError, fn := ⟨_, _, _, _, _, _, _, _, _, _, _, _, _, _, _, _, _, _, _, _, _, _, _, _, _, _, _, _, _, _, _, fun _ => ⟨_, rfl⟩, l_PlanError, d_PlanError, e_PlanError, g_PlanError, h_PlanError, i_PlanError⟩ },
    xd_PlanError := ⟨xu_PlanError, xg_PlanError, xh_PlanError, xe_PlanError, xc_PlanError, xp_PlanError, xq_PlanError, xo_PlanError⟩,
    xf_PlanError := ⟨xg_PlanError, xh_PlanError, xe_PlanError, xd_PlanError⟩,
    kt_PlanError_DeadbeatError := kt_PlanError_DeadbeatError,
    m_str := PySem.W.mg_none_of X G z_str,
    m_divmod := PySem.W.mg_none_of X G z_divmod,
    m_abs := PySem.W.mg_none_of X G z_abs,
    m_list := PySem.W.mg_none_of X G z_list,
    m_int := PySem.W.mg_none_of X G z_int,
    m_len := PySem.W.mg_none_of X G z_len,
    m_range := PySem.W.mg_none_of X G z_range,
    m_all := PySem.W.mg_none_of X G z_all,
    m_set := PySem.W.mg_none_of X G z_set,
    m_enumerate := PySem.W.mg_none_of X G z_enumerate,
    m_isinstance := PySem.W.mg_none_of X G z_isinstance,
    m_bool := PySem.W.mg_none_of X G z_bool,
    t_PIECE := t_PIECE,
    c_PIECE := PySem.W.mg_of X G v_PIECE,
    t_PIECE_DIGITS := t_PIECE_DIGITS,
    c_PIECE_DIGITS := PySem.W.mg_of X G v_PIECE_DIGITS,
    p_LINE_SIZES := p_LINE_SIZES,
    c_LINE_SIZES := PySem.W.mg_of X G v_LINE_SIZES,
    l_LINE_SIZES := ⟨_, w_LINE_SIZES, rfl, rfl⟩,
    q_LINE_SIZES := fun H => sqT_lit w_LINE_SIZES y_LINE_SIZES,
    t_MOST_WAYS := t_MOST_WAYS,
    c_MOST_WAYS := PySem.W.mg_of X G v_MOST_WAYS,
    t_MOST_SETS := t_MOST_SETS,
    c_MOST_SETS := PySem.W.mg_of X G v_MOST_SETS,
    t_GREATEST_LINE := t_GREATEST_LINE,
    c_GREATEST_LINE := PySem.W.mg_of X G v_GREATEST_LINE }
theorem all_mk {l : PySem.W.OpenLaw} {w : World} {K : PySem.W.Frag} {mg : Str → Option Value} {fa : Addr} (T : Top l.prog K mg) (hfa : mg "law" = some (.ref fa)) :
    ∃ fd : FuncData, (∀ (s : Shared) (v : Value), BindsTo s fd ⟨[v], []⟩ [("script", v)]) ∧ ∀ base : Heap, K.In base → base.Ns mainGlobals mg → FnOk l.prog w K mg base CX0 7 fa fd ["script"] (sp_law K) := by
  have e := hfa.symm.trans T.g_law
  cases e
  refine ⟨T.d_law, fun s v => ?_, fun base _ _ => ok_law T⟩
  obtain ⟨oc, od, kV, doc, pm, an, cdv, ct, osl, e, lk, hcd⟩ := T.F_law.ex
  rw [e]
  exact .of_eq rfl
end Mine
open PySem PySem.W PyProof.Rows
set_option maxHeartbeats 0 in
theorem PySem.Challenge.cw_deadbeat_k20_contents_of_caches_holds : PySem.Challenge.rw_deadbeat_k20_contents_of_caches.Holds := by
  w_on; o_law; k_head; (case hw => w_witness2)
  k_fill
  refine L2.walk_of (l := PySem.Challenge.rw_deadbeat_k20_contents_of_caches) (n := 63) (k := 7) (x := "script") (CX := fun _ => L2.CX0) (sp := fun w => Mine.sp_law _) rfl (by decide) rfl ⟨rfl, by decide, by decide⟩ (fun w h Y => PySem.W.kIn_of Y) ?F (fun _ _ a ns hl _ hS => ⟨a, ns, rfl, hS, hl, fun _ => rfl⟩) (fun _ _ _ _ _ h => h)
  case F =>
    intro w mg fa h KX G hmg
    refine' Mine.all_mk (Mine.top_mk (P := PySem.Challenge.rw_deadbeat_k20_contents_of_caches.prog) (w := w) KX G ?n_decimal ?n__law_start ?n__law_draw ?n__law_made ?n__law_valid ?n__law_spoilt ?n__law_refused ?n_law ?nc_PlanError ?nc_Cache ?nc_DeadbeatError ?l_decimal ?c_decimal ?k_decimal ?l__law_start ?c__law_start ?k__law_start ?l__law_draw ?c__law_draw ?k__law_draw ?fi_Cache_init ?fn_Cache_init ?l_Cache_init ?c_Cache_init ?k_Cache_init ?fi_Cache_fits ?fn_Cache_fits ?l_Cache_fits ?c_Cache_fits ?k_Cache_fits ?fi_Cache_fill ?fn_Cache_fill ?l_Cache_fill ?c_Cache_fill ?k_Cache_fill ?fi_Cache_holds ?fn_Cache_holds ?l_Cache_holds ?c_Cache_holds ?k_Cache_holds ?l__law_made ?c__law_made ?k__law_made ?l__law_valid ?c__law_valid ?k__law_valid ?l__law_spoilt ?c__law_spoilt ?k__law_spoilt ?l__law_refused ?c__law_refused ?k__law_refused ?l_law ?c_law ?k_law ?kpg_Cache ?khd_Cache ?kpo_Cache ?ksa_Cache ?kmk_Cache ?kkc_Cache ?ke_Cache ?ko_Cache ?ki_Cache ?kn_Cache_rows ?kn_Cache_sets ?kn_Cache_size ?kn_Cache_ways ?zs_super ?zt_third ?zq_top ?xl_PlanError ?xb_PlanError ?xi_PlanError ?xs_PlanError ?xv_PlanError ?xm_PlanError ?xo_PlanError ?xa_PlanError ?xg_PlanError ?xh_PlanError ?xn_PlanError ?xc_PlanError ?xf_PlanError ?xt_PlanError ?xk_PlanError ?xe_PlanError ?xy_PlanError ?xd_PlanError ?xu_PlanError ?xw_PlanError ?xp_PlanError ?xq_PlanError ?l_PlanError ?d_PlanError ?e_PlanError ?g_PlanError ?h_PlanError ?i_PlanError ?kt_PlanError_DeadbeatError ?z_str ?z_divmod ?z_abs ?z_list ?z_int ?z_len ?z_range ?z_all ?z_set ?z_enumerate ?z_isinstance ?z_bool ?v_PIECE ?v_PIECE_DIGITS ?v_LINE_SIZES ?w_LINE_SIZES ?y_LINE_SIZES ?v_MOST_WAYS ?v_MOST_SETS ?v_GREATEST_LINE) hmg
    (case n_decimal => k_is); (case n__law_start => k_is); (case n__law_draw => k_is); (case n__law_made => k_is); (case n__law_valid => k_is); (case n__law_spoilt => k_is); (case n__law_refused => k_is); (case n_law => k_is); (case nc_PlanError => k_is); (case nc_Cache => k_is); (case nc_DeadbeatError => k_is); (case l_decimal => k_is); (case c_decimal => k_is); (case k_decimal => k_is); (case l__law_start => k_is); (case c__law_start => k_is); (case k__law_start => k_is); (case l__law_draw => k_is); (case c__law_draw => k_is); (case k__law_draw => k_is); (case fi_Cache_init => k_is); (case fn_Cache_init => k_is); (case l_Cache_init => k_is); (case c_Cache_init => k_is); (case k_Cache_init => k_is); (case fi_Cache_fits => k_is); (case fn_Cache_fits => k_is); (case l_Cache_fits => k_is); (case c_Cache_fits => k_is); (case k_Cache_fits => k_is); (case fi_Cache_fill => k_is); (case fn_Cache_fill => k_is); (case l_Cache_fill => k_is); (case c_Cache_fill => k_is); (case k_Cache_fill => k_is); (case fi_Cache_holds => k_is); (case fn_Cache_holds => k_is); (case l_Cache_holds => k_is); (case c_Cache_holds => k_is); (case k_Cache_holds => k_is); (case l__law_made => k_is); (case c__law_made => k_is); (case k__law_made => k_is); (case l__law_valid => k_is); (case c__law_valid => k_is); (case k__law_valid => k_is); (case l__law_spoilt => k_is); (case c__law_spoilt => k_is); (case k__law_spoilt => k_is); (case l__law_refused => k_is); (case c__law_refused => k_is); (case k__law_refused => k_is); (case l_law => k_is); (case c_law => k_is); (case k_law => k_is); (case kpg_Cache => k_is); (case khd_Cache => k_is); (case kpo_Cache => k_is); (case ksa_Cache => k_is); (case kmk_Cache => k_is); (case kkc_Cache => k_is); (case ke_Cache => k_is); (case ko_Cache => k_is); (case ki_Cache => k_is); (case kn_Cache_rows => k_is); (case kn_Cache_sets => k_is); (case kn_Cache_size => k_is); (case kn_Cache_ways => k_is); (case zs_super => k_is); (case zt_third => k_is); (case zq_top => first | rfl | k_is | kx_is | ks_is | decide +kernel | kernel_rfl | with_unfolding_all rfl); (case xl_PlanError => k_is); (case xb_PlanError => first | rfl | k_is | kx_is | ks_is | decide +kernel | kernel_rfl | with_unfolding_all rfl); (case xi_PlanError => first | rfl | k_is | kx_is | ks_is | decide +kernel | kernel_rfl | with_unfolding_all rfl); (case xs_PlanError => first | rfl | k_is | kx_is | ks_is | decide +kernel | kernel_rfl | with_unfolding_all rfl); (case xv_PlanError => k_is); (case xm_PlanError => k_is); (case xo_PlanError => k_is); (case xa_PlanError => k_is); (case xg_PlanError => k_is); (case xh_PlanError => k_is); (case xn_PlanError => k_is); (case xc_PlanError => k_is); (case xf_PlanError => k_is); (case xt_PlanError => k_is); (case xk_PlanError => k_is); (case xe_PlanError => k_is); (case xy_PlanError => k_is); (case xd_PlanError => k_is); (case xu_PlanError => k_is); (case xw_PlanError => k_is); (case xp_PlanError => k_is); (case xq_PlanError => k_is); (case l_PlanError => k_is); (case d_PlanError => k_is); (case e_PlanError => first | rfl | k_is | kx_is | ks_is | decide +kernel | kernel_rfl | with_unfolding_all rfl); (case g_PlanError => first | rfl | k_is | kx_is | ks_is | decide +kernel | kernel_rfl | with_unfolding_all rfl); (case h_PlanError => first | rfl | k_is | kx_is | ks_is | decide +kernel | kernel_rfl | with_unfolding_all rfl); (case i_PlanError => k_is); (case kt_PlanError_DeadbeatError => first | rfl | k_is | kx_is | ks_is | decide +kernel | kernel_rfl | with_unfolding_all rfl); (case z_str => k_is); (case z_divmod => k_is); (case z_abs => k_is); (case z_list => k_is); (case z_int => k_is); (case z_len => k_is); (case z_range => k_is); (case z_all => k_is); (case z_set => k_is); (case z_enumerate => k_is); (case z_isinstance => k_is); (case z_bool => k_is); (case v_PIECE => k_is); (case v_PIECE_DIGITS => k_is); (case v_LINE_SIZES => k_is); (case w_LINE_SIZES => k_is); (case y_LINE_SIZES => first | k_is | (repeat (first | exact .nil | refine .cons ⟨_, rfl⟩ ?_))); (case v_MOST_WAYS => k_is); (case v_MOST_SETS => k_is); (case v_GREATEST_LINE => k_is)

